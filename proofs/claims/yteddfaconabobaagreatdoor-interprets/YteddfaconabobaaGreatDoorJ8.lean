import Derived.Test.YteddfaconabobaaGreatDoorPk
import Derived.Test.YteddfaconabobaaGreatDoorJ7
import Derived.Deep.RegionHeld3
namespace Go.Proofs.YteddfaconabobaaGreatDoor
open Go.RowKit
set_option maxHeartbeats 2000000 in
set_option maxRecDepth 100000 in
theorem Yo (f:Zn)(fv ev pv hv sv bv lv:Value)(r:Int)(ls:List Int)(w:World)(hh:∃ p c,hv=.slice p f.homes.length c)(hhl:f.homes.length<9223372036854775808)(h:Li w lv ls):Calls Tryz.prog 109 #[.agg #[fv,ev,pv,.int .i64 r,hv,sv,bv],lv] w fun e w'=>e=.returned (.bool (Xg f ls))∧Below w.heap.size w w':=by
 obtain⟨ph,ch,rfl⟩:=hh;have hx:=Yj w (.cells #[fv,ev,pv,.int .i64 r,.slice ph f.homes.length ch,sv,bv] 173 (0,0));obtain⟨p,cap,rfl,hcap,hlt,hc⟩:=h.below hx.2.1;have hlt:ls.length<9223372036854775808:=hlt;have HC:=J hc;have HX:=J hx;clear hc hx h;go_enter Tryz.func109,Tryz.ntmps109
 go_wp2_with fail
 generalize World.alloc w _=W at HC HX ⊢;go_loopw [9] (fun j w'=>∃ k:Nat,j=.int .i64 k∧k≤ls.length∧w'=W∧∀ q,q<k→Zr f (ls.getD q 0)=true) (fun j _=>ls.length-(intOf j).toNat)
 case atStart=>exact⟨0,rfl,by omega,rfl,fun q hq=>by omega⟩
 case round =>
  obtain⟨k,rfl,hk,rfl,hno⟩:=hrel;have HN:=J hno;clear hno;by_cases hk2:k<ls.length
  ·
   obtain⟨sb,so,rfl,hcc⟩:=G HC (by omega);have c:=hcc k hk2;have r4:=(cR (G HX).1 4);have HW:=J (Xb (ls.getD k 0) 0 (f.homes.length-1) wr);have HBAD:=J (fun hb:Yi (ls.getD k 0) 0 (f.homes.length-1)=false=>show Xg f ls=false from Zz hk2 hb);have HNX:=J (fun hb:Yi (ls.getD k 0) 0 (f.homes.length-1)=true=>Zq (q:=fun q=>Zr f (ls.getD q 0)) (G HN) hb);clear hcc HC;generalize Yi (ls.getD k 0) 0 (f.homes.length-1)=yes at HW HBAD HNX;generalize ls.getD k 0=y at c HW;go_wp2_with fail
   refine(G HW).mono ?_;rintro e w2 ⟨rfl,h2⟩;subst w2;cases yes with
   | false =>
    have hx:=J (G HBAD rfl);go_wp2;go_ret;exact⟨by rw [G hx]; rfl,(G HX).2.1⟩
   | true =>
    have hx:=J (G HNX rfl);go_wp2;go_roundw
    case rel=>exact⟨k+1,by go_num,by omega,trivial,G hx⟩
    case measure=>simp [intOf]; omega
  ·
   have HT:=J (show Xg f ls=true from Yn (fun q hq=>G HN q (by omega)));obtain rfl:k=ls.length:=by omega
   go_wp2;go_ret;exact⟨by rw [G HT]; rfl,(G HX).2.1⟩
set_option maxHeartbeats 2000000 in
set_option maxRecDepth 100000 in
theorem Zdm (v:Value)(ls:List Int)(w:World)(h:Li w v ls)(hn:ls.length≤1000000):Calls Tryz.prog 119 #[v] w fun e w'=>e=.returned (.bool (Ol ls))∧w'=w:=by
 have HL:=J h;obtain⟨p,cap,rfl,hcap,hlt,-⟩:=h;go_enter Tryz.func119,Tryz.ntmps119
 go_wp2_with fail
 go_loopw [7] (fun j w'=>∃ k:Nat,j=.int .i64 k∧k≤ls.length∧w'=w∧∀ q,q<k→(!decide (ls.getD q 0 ∈ ls.take q))=true) (fun j _=>ls.length-(intOf j).toNat)
 case atStart=>exact⟨0,rfl,by omega,rfl,fun q hq=>by omega⟩
 case round =>
  obtain⟨k,rfl,hk,rfl,hno⟩:=hrel;have HN:=J hno;clear hno;by_cases hk2:k<ls.length
  ·
   have HCT:=J (Nc (ls.take k) (ls.getD k 0) (.slice p k cap) wr ((G HL).take k (by omega)).rs (by simp; omega));obtain⟨p',cap',he,-,-,hcc⟩:=G HL;injection he with e1 e2 e3;subst e1 e3;obtain⟨sb,so,rfl,hc⟩:=hcc (by omega);have c:=hc k hk2;have HBAD:=J (fun hb:decide (ls.getD k 0 ∈ ls.take k)=true=>show Ol ls=false from Zz hk2 (by rw [hb]; rfl));have HNX:=J (fun hb:decide (ls.getD k 0 ∈ ls.take k)=false=>Zq (q:=fun q=>!decide (ls.getD q 0 ∈ ls.take q)) (G HN) (by show(!decide (ls.getD k 0 ∈ ls.take k))=true; rw [hb]; rfl));clear hc hcc e2;generalize decide (ls.getD k 0 ∈ ls.take k)=yes at HCT HBAD HNX;generalize ls.getD k 0=y at c HCT;go_wp2_with fail
   refine(G HCT).mono ?_;rintro e w2 ⟨rfl,h2⟩;subst w2;cases yes with
   | true =>
    have hx:=J (G HBAD rfl);go_wp2;go_ret;exact⟨by rw [G hx]; rfl,rfl⟩
   | false =>
    have hx:=J (G HNX rfl);go_wp2;go_roundw
    case rel=>exact⟨k+1,by go_num,by omega,trivial,G hx⟩
    case measure=>simp [intOf]; omega
  ·
   have HT:=J (show Ol ls=true from Yn (fun q hq=>G HN q (by omega)));obtain rfl:k=ls.length:=by omega
   go_wp2;go_ret;exact⟨by rw [G HT]; rfl,rfl⟩
set_option maxRecDepth 100000 in
theorem Iq (f:Zn)(fv ev pv hv bv:Value)(q:Option Addr)(c:Nat)(r n:Int)(w:World)(hl:f.slots.length<9223372036854775808):Calls Tryz.prog 116 #[.agg #[fv,ev,pv,.int .i64 r,hv,.slice q f.slots.length c,bv],.int .i64 n] w fun e w'=>e=.returned (.bool (Yi n 0 (f.slots.length-1)))∧Below w.heap.size w w':=by
 have HX:=J (Yj w (.cells #[fv,ev,pv,.int .i64 r,hv,.slice q f.slots.length c,bv] 173 (0,0)));go_enter Tryz.func116,Tryz.ntmps116
 go_wp2_with fail
 refine(Xb n 0 (f.slots.length-1) _).mono ?_;rintro e w2 ⟨rfl,h2⟩;subst w2;go_wp2;go_ret;exact⟨rfl,(G HX).2.1⟩
set_option maxRecDepth 100000 in
theorem Dh (f:Zn)(fv ev pv hv sv:Value)(q:Option Addr)(c:Nat)(r n:Int)(w:World)(hl:f.blocks.length<9223372036854775808):Calls Tryz.prog 113 #[.agg #[fv,ev,pv,.int .i64 r,hv,sv,.slice q f.blocks.length c],.int .i64 n] w fun e w'=>e=.returned (.bool (Yi n 0 (f.blocks.length-1)))∧Below w.heap.size w w':=by
 have HX:=J (Yj w (.cells #[fv,ev,pv,.int .i64 r,hv,sv,.slice q f.blocks.length c] 173 (0,0)));go_enter Tryz.func113,Tryz.ntmps113
 go_wp2_with fail
 refine(Xb n 0 (f.blocks.length-1) _).mono ?_;rintro e w2 ⟨rfl,h2⟩;subst w2;go_wp2;go_ret;exact⟨rfl,(G HX).2.1⟩
set_option maxRecDepth 100000 in
theorem Up (p:Zl)(ev pv hv sv bv:Value)(q:Option Addr)(c:Nat)(r n:Int)(w:World)(hl:p.funcs.length<9223372036854775808):Calls Tryz.prog 111 #[.agg #[.slice q p.funcs.length c,ev,pv,.int .i64 r,hv,sv,bv],.int .i64 n] w fun e w'=>e=.returned (.bool (Yi n 0 (p.funcs.length-1)))∧Below w.heap.size w w':=by
 have HX:=J (Yj w (.cells #[.slice q p.funcs.length c,ev,pv,.int .i64 r,hv,sv,bv] 173 (0,0)));go_enter Tryz.func111,Tryz.ntmps111
 go_wp2_with fail
 refine(Xb n 0 (p.funcs.length-1) _).mono ?_;rintro e w2 ⟨rfl,h2⟩;subst w2;go_wp2;go_ret;exact⟨rfl,(G HX).2.1⟩
set_option maxRecDepth 100000 in
theorem Zfy (n:Int)(w:World):Calls Tryz.prog 117 #[.int .i64 n] w fun e w'=>e=.returned (.bool (Nq n))∧w'=w:=by
 have hw:Nq n=decide (n=1∨n=2∨n=4∨n=8):=rfl;rw [hw];clear hw;by_cases h1:n=1
 ·
  subst h1;go_enter Tryz.func117,Tryz.ntmps117
  go_wp2;go_ret;exact⟨rfl,rfl⟩
 ·
  by_cases h2:n=2
  ·
   subst h2;go_enter Tryz.func117,Tryz.ntmps117
   go_wp2;go_ret;exact⟨rfl,rfl⟩
  ·
   by_cases h4:n=4
   ·
    subst h4;go_enter Tryz.func117,Tryz.ntmps117
    go_wp2;go_ret;exact⟨rfl,rfl⟩
   ·
    by_cases h8:n=8
    ·
     subst h8;go_enter Tryz.func117,Tryz.ntmps117
     go_wp2;go_ret;exact⟨rfl,rfl⟩
    ·
     have hd:decide (n=1∨n=2∨n=4∨n=8)=false:=by simp; omega
     rw [hd];have z1:(n==1)=false:=by simpa using h1
     have z2:(n==2)=false:=by simpa using h2
     have z4:(n==4)=false:=by simpa using h4
     have z8:(n==8)=false:=by simpa using h8
     clear hd h1 h2 h4 h8;go_enter Tryz.func117,Tryz.ntmps117
     go_wp2;go_ret;exact⟨rfl,rfl⟩
theorem Du {f:Zn}{i:Zw}(h:Yi i.a 0 (f.slots.length-1)=false):Nv f i=false:=by unfold Nv; simp [h]
theorem Ok {f:Zn}{i:Zw}(h:Nq i.n=false):Nv f i=false:=by unfold Nv; simp [h]
theorem IntKind.wrap_of_boundsK {n:Int}(h0:-9223372036854775808≤n)(h1:n<9223372036854775808):IntKind.i64.wrap n=n:=by
 rw [IntKind.wrap_i64];omega
set_option maxHeartbeats 2000000 in
set_option maxRecDepth 100000 in
theorem Ir (f:Zn)(i:Zw)(fv ev pv hv sv bv av ov:Value)(r:Int)(w:World)(hs:Li w sv f.slots)(h18:Jd f.slots 1 8=true)(hnn:0≤i.n∧i.n<18446744073709551616):Calls Tryz.prog 110 #[.agg #[fv,ev,pv,.int .i64 r,hv,sv,bv],.agg #[.int .i64 i.op,.int .i64 i.d,.int .i64 i.a,.int .i64 i.bb,.int .u64 i.n,.int .i64 i.f,av,ov]] w fun e w'=>e=.returned (.bool (Nv f i))∧Below w.heap.size w w':=by
 obtain⟨op,d,a,bb,n,fx,gs,os⟩:=i;simp only at hnn ⊢;have hx:=Yj w (.cells #[fv,ev,pv,.int .i64 r,hv,sv,bv] 173 (0,0));have hx2:=Yj (w.alloc (.cells #[fv,ev,pv,.int .i64 r,hv,sv,bv] 173 (0,0))) (.cells #[.int .i64 op,.int .i64 d,.int .i64 a,.int .i64 bb,.int .u64 n,.int .i64 fx,av,ov] 65 (0,0));have HL:=J ((hs.below hx.2.1).below hx2.2.1);have hs1:=hx.2.2;have hs2:=hx2.2.2;have HW1:=J (Za hx.2.1 hx2.2.1 (by omega));have hrs:=(hx2.2.1.block w.heap.size (by omega)).trans hx.1;have hri:=hx2.1;rw [hs1] at hri hs2;have hsl:f.slots.length<9223372036854775808:=hs.lt;obtain⟨ps,cs,rfl⟩:=hs.shape;have HRS:=J hrs;have HRI:=J hri;have HS2:=J hs2;have HNU:=J h18;have hn0:=hnn.1;have hn1:=hnn.2;clear hx hx2 hs hs1 hs2 hrs hri h18 hnn;go_enter Tryz.func110,Tryz.ntmps110
 go_wp2_with fail
 generalize World.alloc (World.alloc w _) _=W at HL HW1 HRS HRI HS2 ⊢;refine(Iq f _ _ _ _ _ _ _ _ _ W hsl).mono ?_;rintro e w2 ⟨rfl,hb⟩;have HB2:=J hb;have hsz:=G HS2;have hrow:=(hb.block (w.heap.size+1) (by omega)).trans (G HRI);have r2:=(cR hrow 2);have r3:=(cR hrow 3);have r4:=(cR hrow 4);have hrow2:=(hb.block w.heap.size (by omega)).trans (G HRS);have q5:=(cR hrow2 5);have HEND:=J (Za (G HW1) hb (by omega));clear hb hrow hrow2 hsz;cases h1:Yi a 0 (f.slots.length-1) with
 | false =>
  have hz:=J (Du (f:=f) (i:=⟨op,d,a,bb,n,fx,gs,os⟩) h1);go_wp2;go_ret;exact⟨by rw [G hz]; rfl,G HEND⟩
 | true =>
  by_cases h8:n≤8
  ·
   have hcv:IntKind.i64.wrap n=n:=IntKind.wrap_of_boundsK (by omega) (by omega);go_wp2_with fail
   refine(Zfy n w2).mono ?_;rintro e w3 ⟨rfl,h3⟩;subst w3;cases h2:Nq n with
   | false =>
    have hz:=J (Ok (f:=f) (i:=⟨op,d,a,bb,n,fx,gs,os⟩) h2);go_wp2;go_ret;exact⟨by rw [G hz]; rfl,G HEND⟩
   | true =>
    have hw:=h2;unfold Nq at hw;have hw:=of_decide_eq_true hw;go_wp2_with fail
    have ha:=h1;unfold Yi at ha;obtain⟨g0,g1⟩:=of_decide_eq_true ha;obtain⟨m,rfl⟩:∃ m:Nat,a=m:=⟨a.toNat,by omega⟩;have hm:m<f.slots.length:=by omega
    have hsb:Yi (f.slots.getD m 0) 1 8=true:=Xt (G HNU) hm;unfold Yi at hsb;obtain⟨s0,s1⟩:=of_decide_eq_true hsb;obtain⟨p',cap',he,-,-,hcc⟩:=(G HL).below (G HB2);injection he with e1 e2 e3;subst e1 e3;obtain⟨sb,so,rfl,hc⟩:=hcc (by omega);have c:=hc m hm;have HSL:=J (show Nv f ⟨op,d,m,bb,n,fx,gs,os⟩=(Yi bb 0 (8*f.slots.getD m 0-n)&&decide (bb % n=0)) by unfold Nv; simp only [Int.toNat_natCast]; rw [h1,h2]; rfl);clear hc hcc hsb ha e2 g0 g1 h1 h2;generalize f.slots.getD m 0=s at c HSL s0 s1;have HWI:=J (fun V=>Xb bb 0 (8*s-n) V);rcases hw with rfl | rfl | rfl | rfl;all_goals (
     cases h3:Yi bb 0 (8*s-_) with
     | false =>
      rw [h3] at HWI HSL;go_quiet ((go_at_call 74; exact Calls.quiet_of_same (G HWI _)))
      go_wp2;go_ret;exact⟨by rw [G HSL]; rfl,Zk (G HEND) _⟩
     | true =>
      rw [h3] at HWI HSL;unfold Yi at h3;obtain⟨g0,g1⟩:=of_decide_eq_true h3;obtain⟨t,rfl⟩:∃ t:Nat,bb=t:=⟨bb.toNat,by omega⟩;clear h3 g0 g1;go_quiet ((go_at_call 74; exact Calls.quiet_of_same (G HWI _)))
      go_wp2;go_ret;exact⟨by rw [G HSL]; first | rfl | simp [Int.emod_one],Zk (G HEND) _⟩)
  ·
   have hz:=J (Ok (f:=f) (i:=⟨op,d,a,bb,n,fx,gs,os⟩) (by unfold Nq; simp; omega));go_wp2;go_ret;exact⟨by rw [G hz]; rfl,G HEND⟩
theorem Li.one (w:World)(n:Int):Li (w.alloc (.cells #[.int .i64 n] 3 (0,0))) (.slice (some ⟨w.heap.size,0,none⟩) 1 1) [n]:=Li.new (ns:=[n]) (heap_alloc_new w _) (by show 1<Xa; decide)
set_option maxHeartbeats 2000000 in
set_option maxRecDepth 100000 in
theorem Zhm (f:Zn)(fv ev pv hv sv bv:Value)(r:Int)(x:Int×Int)(w:World)(hh:Li w hv f.homes)(hs:Li w sv f.slots):Calls Tryz.prog 120 #[.agg #[fv,ev,pv,.int .i64 r,hv,sv,bv],.agg #[.int .i64 x.1,.int .i64 x.2]] w fun e w'=>e=.returned (.bool (Yd f x))∧Below w.heap.size w w':=by
 obtain⟨x,y⟩:=x;have hhl:f.homes.length<9223372036854775808:=hh.lt;have hsl:f.slots.length<9223372036854775808:=hs.lt;obtain⟨ph,ch,rfl⟩:=hh.shape;obtain⟨ps,cs,rfl⟩:=hs.shape;have hx:=Yj w (.cells #[fv,ev,pv,.int .i64 r,.slice ph f.homes.length ch,.slice ps f.slots.length cs,bv] 173 (0,0));have hx2:=Yj (w.alloc (.cells #[fv,ev,pv,.int .i64 r,.slice ph f.homes.length ch,.slice ps f.slots.length cs,bv] 173 (0,0))) (.cells #[.int .i64 x,.int .i64 y] 139 (0,0));have HL:=J ((hs.below hx.2.1).below hx2.2.1);have hs1:=hx.2.2;have hs2:=hx2.2.2;have HW1:=J (Za hx.2.1 hx2.2.1 (by omega));have hrs:=(hx2.2.1.block w.heap.size (by omega)).trans hx.1;have hri:=hx2.1;rw [hs1] at hri hs2;have HRS:=J hrs;have HRI:=J hri;have HS2:=J hs2;clear hx hx2 hs hs1 hs2 hrs hri hh;by_cases h0:x=0
 ·
  have HS:=J (show Yd f (x,y)=Xg f [y] by unfold Yd Xg; simp [h0,Dc,Zr]);subst h0;go_enter Tryz.func120,Tryz.ntmps120
  go_wp2_with fail
  generalize World.alloc (World.alloc w _) _=W at HL HW1 HRS HRI HS2 ⊢;have hT:=G HS2;rw [← hT];refine(Yo f _ _ _ _ _ _ _ _ [y] _ ⟨ph,ch,rfl⟩ hhl (Li.one W y)).mono ?_;rintro e w2 ⟨rfl,hb⟩;have HB2:=J (Za (Za (G HW1) (Yj W (.cells #[.int .i64 y] 3 (0,0))).2.1 (by omega)) hb (by simp; omega));clear hb hT;go_wp2;go_ret;exact⟨by rw [G HS]; rfl,G HB2⟩
 ·
  have hz:(x==0)=false:=by simpa using h0
  have HS:=J (show Yd f (x,y)=(Yi y 0 (f.slots.length-1)&&decide (f.slots.getD y.toNat 0=x)) by unfold Yd; simp [h0]);have HW:=J (fun V fv ev pv r hv bv=>Iq f fv ev pv hv bv ps cs r y V hsl);go_enter Tryz.func120,Tryz.ntmps120
  go_wp2_with fail
  generalize World.alloc (World.alloc w _) _=W at HL HW1 HRS HRI HS2 ⊢;have hT:=G HS2;cases hr:Yi y 0 (f.slots.length-1) with
  | false =>
   rw [hr] at HW HS;have HK:=J (fun(V:World) (h:Below W.heap.size W V)=>show Below W.heap.size W V∧V.cell? ⟨w.heap.size,0,none⟩=some (fv)∧V.cell? ⟨w.heap.size,1,none⟩=some (ev)∧V.cell? ⟨w.heap.size,2,none⟩=some (pv)∧V.cell? ⟨w.heap.size,3,none⟩=some (.int .i64 r)∧V.cell? ⟨w.heap.size,4,none⟩=some (.slice ph f.homes.length ch)∧V.cell? ⟨w.heap.size,5,none⟩=some (.slice ps f.slots.length cs)∧V.cell? ⟨w.heap.size,6,none⟩=some (bv)∧V.cell? ⟨w.heap.size+1,0,none⟩=some (.int .i64 x)∧V.cell? ⟨w.heap.size+1,1,none⟩=some (.int .i64 y) from⟨h,(cR ((h.block w.heap.size (by omega)).trans (G HRS)) 0),(cR ((h.block w.heap.size (by omega)).trans (G HRS)) 1),(cR ((h.block w.heap.size (by omega)).trans (G HRS)) 2),(cR ((h.block w.heap.size (by omega)).trans (G HRS)) 3),(cR ((h.block w.heap.size (by omega)).trans (G HRS)) 4),(cR ((h.block w.heap.size (by omega)).trans (G HRS)) 5),(cR ((h.block w.heap.size (by omega)).trans (G HRS)) 6),(cR ((h.block (w.heap.size+1) (by omega)).trans (G HRI)) 0),(cR ((h.block (w.heap.size+1) (by omega)).trans (G HRI)) 1)⟩);clear hr hT;refine wp_region_held_drew (S:=fun V=>Below W.heap.size W V∧V.cell? ⟨w.heap.size,0,none⟩=some (fv)∧V.cell? ⟨w.heap.size,1,none⟩=some (ev)∧V.cell? ⟨w.heap.size,2,none⟩=some (pv)∧V.cell? ⟨w.heap.size,3,none⟩=some (.int .i64 r)∧V.cell? ⟨w.heap.size,4,none⟩=some (.slice ph f.homes.length ch)∧V.cell? ⟨w.heap.size,5,none⟩=some (.slice ps f.slots.length cs)∧V.cell? ⟨w.heap.size,6,none⟩=some (bv)∧V.cell? ⟨w.heap.size+1,0,none⟩=some (.int .i64 x)∧V.cell? ⟨w.heap.size+1,1,none⟩=some (.int .i64 y)) (by kernel_rfl) (G HK _ (Below.refl _ _).drew) (fun hHeld=>?_)
   refine tT 0 ?_;simp only [Act.put,zA,zB,zC,zD,zE];refine tT 1 ?_;simp only [Act.put,zA,zB,zC,zD,zE,zF];refine tT 2 ?_;simp only [Act.put,zA,zB,zC,zD,zE,zF];refine tO 3 fun K hK=>?_;go_simp;refine(G HW _ _ _ _ _ _ _).mono ?_;rintro e w5 ⟨rfl,hb5⟩;have HB5:=J (Za (Below.refl W.heap.size W).drew hb5 (Nat.le_refl _));clear hb5;go_wp2_with fail
   refine hK.out _ _ (G HK _ (G HB5)) (fun hHeld2=>?_);clear hK K;try simp only [Act.put,zA,zB,zC,zD,zE,zF]
   refine tT 4 ?_;simp only [Act.put,zA,zB,zC,zD,zE,zF];refine tS 5 ?_;simp only [Act.put,zA,zB,zC,zD,zE,zF];refine tS 6 ?_;simp only [Act.put,zA,zB,zC,zD,zE,zF];refine tS 7 ?_;simp only [Act.put,zA,zB,zC,zD,zE,zF];refine tS 8 ?_;simp only [Act.put,zA,zB,zC,zD,zE,zF];refine tS 9 ?_;simp only [Act.put,zA,zB,zC,zD,zE,zF];refine tS 10 ?_;simp only [Act.put,zA,zB,zC,zD,zE,zF];refine tS 11 ?_;simp only [Act.put,zA,zB,zC,zD,zE,zF];refine tS 12 ?_;simp only [Act.put,zA,zB,zC,zD,zE,zF];refine tS 13 ?_;simp only [Act.put,zA,zB,zC,zD,zE,zF];refine tS 14 ?_;simp only [Act.put,zA,zB,zC,zD,zE,zF];refine tT 15 ?_;simp only [Act.put,zA,zB,zC,zD,zE,zF];refine tT 16 ?_;simp only [Act.put,zA,zB,zC,zD,zE,zF];refine wpAnyH_done (by kernel_rfl) ?_ _;all_goals (
    go_wp2;go_ret;exact⟨by rw [G HS]; rfl,Za (G HW1) (G HB5) (by have:=G HS2; omega)⟩)
  | true =>
   rw [hr] at HW HS;unfold Yi at hr;obtain⟨g0,g1⟩:=of_decide_eq_true hr;obtain⟨n,rfl⟩:∃ n:Nat,y=n:=⟨y.toNat,by omega⟩;have hn:n<f.slots.length:=by omega
   obtain⟨p',cap',he,-,-,hcc⟩:=G HL;injection he with e1 e2 e3;subst e1 e3;obtain⟨sb,so,rfl,hc⟩:=hcc (by omega);have cc:=hc n hn;rw [Int.toNat_natCast] at HS;generalize f.slots.getD n 0=z at cc HS;have HK:=J (fun(V:World) (h:Below W.heap.size W V)=>show Below W.heap.size W V∧V.cell? ⟨w.heap.size,0,none⟩=some (fv)∧V.cell? ⟨w.heap.size,1,none⟩=some (ev)∧V.cell? ⟨w.heap.size,2,none⟩=some (pv)∧V.cell? ⟨w.heap.size,3,none⟩=some (.int .i64 r)∧V.cell? ⟨w.heap.size,4,none⟩=some (.slice ph f.homes.length ch)∧V.cell? ⟨w.heap.size,5,none⟩=some (.slice (some ⟨sb,so,none⟩) f.slots.length cs)∧V.cell? ⟨w.heap.size,6,none⟩=some (bv)∧V.cell? ⟨w.heap.size+1,0,none⟩=some (.int .i64 x)∧V.cell? ⟨w.heap.size+1,1,none⟩=some (.int .i64 n)∧V.cell? ⟨sb,so+n,none⟩=some (.int .i64 z) from⟨h,(cR ((h.block w.heap.size (by omega)).trans (G HRS)) 0),(cR ((h.block w.heap.size (by omega)).trans (G HRS)) 1),(cR ((h.block w.heap.size (by omega)).trans (G HRS)) 2),(cR ((h.block w.heap.size (by omega)).trans (G HRS)) 3),(cR ((h.block w.heap.size (by omega)).trans (G HRS)) 4),(cR ((h.block w.heap.size (by omega)).trans (G HRS)) 5),(cR ((h.block w.heap.size (by omega)).trans (G HRS)) 6),(cR ((h.block (w.heap.size+1) (by omega)).trans (G HRI)) 0),(cR ((h.block (w.heap.size+1) (by omega)).trans (G HRI)) 1),(h.cell (World.block_lt_of_cell? W _ cc)).trans cc⟩);clear hr hT hc hcc g0 g1 e2 cc;go_region_held3 (fun V=>Below W.heap.size W V∧V.cell? ⟨w.heap.size,0,none⟩=some (fv)∧V.cell? ⟨w.heap.size,1,none⟩=some (ev)∧V.cell? ⟨w.heap.size,2,none⟩=some (pv)∧V.cell? ⟨w.heap.size,3,none⟩=some (.int .i64 r)∧V.cell? ⟨w.heap.size,4,none⟩=some (.slice ph f.homes.length ch)∧V.cell? ⟨w.heap.size,5,none⟩=some (.slice (some ⟨sb,so,none⟩) f.slots.length cs)∧V.cell? ⟨w.heap.size,6,none⟩=some (bv)∧V.cell? ⟨w.heap.size+1,0,none⟩=some (.int .i64 x)∧V.cell? ⟨w.heap.size+1,1,none⟩=some (.int .i64 n)∧V.cell? ⟨sb,so+n,none⟩=some (.int .i64 z)) ((first | exact G HK _ (Below.refl _ _).drew | exact G HK _ (G HB5))) ((go_at_call 116; refine(G HW _ _ _ _ _ _ _).mono ?_; rintro e w5 ⟨rfl,hb5⟩; have HB5:=J (Za (Below.refl W.heap.size W).drew hb5 (Nat.le_refl _)); clear hb5))
   all_goals (
    go_wp2;go_ret;exact⟨by rw [G HS]; rfl,Za (G HW1) (G HB5) (by have:=G HS2; omega)⟩)
set_option maxHeartbeats 4000000 in
set_option maxRecDepth 100000 in
theorem It (f:Zn)(fv ev pv hv sv bv av qv:Value)(r:Int)(gs:List (Int×Int))(ns:List Int)(w:World)(hh:Li w hv f.homes)(hs:Li w sv f.slots)(ha:LS 2 w av gs.length (fun k=>Yz (gs.getD k (0,0))))(hq:Li w qv ns):Calls Tryz.prog 118 #[.agg #[fv,ev,pv,.int .i64 r,hv,sv,bv],av,qv] w fun e w'=>e=.returned (.bool (Ju f gs ns))∧Below w.heap.size w w':=by
 obtain⟨ph,ch,rfl⟩:=hh.shape;obtain⟨ps,cs,rfl⟩:=hs.shape;have hx:=Yj w (.cells #[fv,ev,pv,.int .i64 r,.slice ph f.homes.length ch,.slice ps f.slots.length cs,bv] 173 (0,0));have HH:=J (hh.below hx.2.1);have HS:=J (hs.below hx.2.1);obtain⟨pa,ca,rfl,hca,hla,hac⟩:=(ha.below hx.2.1).pairs;obtain⟨pq,cq,rfl,hcq,hlq,hqc⟩:=hq.below hx.2.1;have hlq:ns.length<9223372036854775808:=hlq;have HA:=J hac;have HQ:=J hqc;have HX:=J hx;clear hx hh hs ha hq hac hqc;by_cases hne:gs.length=ns.length
 ·
  have z:((gs.length:Int) != (ns.length:Int))=false:=by simp [hne]
  have HAB:=J (show Ju f gs ns=Dc gs.length (fun k=>decide ((gs.getD k (0,0)).1=ns.getD k 0)&&Yd f (gs.getD k (0,0))) by unfold Ju; simp [hne]);have HNE:=J hne;clear hne;go_enter Tryz.func118,Tryz.ntmps118
  go_wp2_with fail
  generalize World.alloc w _=W at HH HS HA HQ HX ⊢;go_loopw [16] (fun j w'=>∃ k:Nat,j=.int .i64 k∧k≤gs.length∧Below W.heap.size W w'∧∀ q,q<k→(decide ((gs.getD q (0,0)).1=ns.getD q 0)&&Yd f (gs.getD q (0,0)))=true) (fun j _=>gs.length-(intOf j).toNat)
  case atStart=>exact⟨0,rfl,by omega,Below.refl _ _,fun q hq=>by omega⟩
  case round =>
   obtain⟨k,rfl,hk,hbw,hno⟩:=hrel;have HN:=J hno;clear hno;have hWs:=(G HX).2.2;have hws:=hbw.size;by_cases hk2:k<gs.length
   ·
    have hk3:k<ns.length:=by have:=G HNE; omega
    obtain⟨sb,so,rfl,hcc⟩:=G HA (by omega);obtain⟨sq,oq,rfl,hqq⟩:=G HQ (by omega);have hsb:sb<W.heap.size:=World.block_lt_of_cell? W _ (hcc k hk2).1;have c1:=(hbw.cell (p:=⟨sb,so+k*2,none⟩) hsb).trans (hcc k hk2).1;have c2:=(hbw.cell (p:=⟨sb,so+k*2+1,none⟩) hsb).trans (hcc k hk2).2;have hcq':=(hbw.cell (World.block_lt_of_cell? W _ (hqq k hk3))).trans (hqq k hk3);have HROW:=J ((hbw.block w.heap.size (by omega)).trans (G HX).1);have HBAD:=J (fun hb:(decide ((gs.getD k (0,0)).1=ns.getD k 0)&&Yd f (gs.getD k (0,0)))=false=>show Ju f gs ns=false by rw [G HAB]; exact Zz hk2 hb);have HNX:=J (fun hb:(decide ((gs.getD k (0,0)).1=ns.getD k 0)&&Yd f (gs.getD k (0,0)))=true=>Zq (q:=fun q=>decide ((gs.getD q (0,0)).1=ns.getD q 0)&&Yd f (gs.getD q (0,0))) (G HN) hb);have HBW:=J hbw;clear hcc hqq hbw;generalize gs.getD k (0,0)=xy at c1 c2 HBAD HNX;obtain⟨x,y⟩:=xy;generalize ns.getD k 0=z2 at hcq' HBAD HNX;simp only at c1 c2 HBAD HNX;go_wp2_with fail
    have hy:=Yj wr (.cells #[.int .i64 x,.int .i64 y] 139 (0,0));have hrX:=hy.1;have hrS:=(hy.2.1.block w.heap.size (by omega)).trans (G HROW);have cq:=(hy.2.1.cell (World.block_lt_of_cell? wr _ hcq')).trans hcq';have hbU:Below W.heap.size W (wr.alloc (.cells #[.int .i64 x,.int .i64 y] 139 (0,0))):=Za (G HBW) hy.2.1 hws;have hUs:=hy.2.2;clear hy hcq' c1 c2;generalize hTx:wr.heap.size=Tx at hrX hUs hws ⊢;generalize World.alloc wr _=U at hrX hrS cq hbU hUs ⊢;have hTU:Tx<U.heap.size:=by omega
    have HBU:=J hbU;clear hTx;by_cases hxz:x=z2
    ·
     subst hxz;have zz:(x != x)=false:=by simp
     have hsz:w.heap.size<U.heap.size:=by omega
     have HK:=J (fun(V:World) (h:Below U.heap.size U V)=>show Below U.heap.size U V∧V.cell? ⟨w.heap.size,0,none⟩=some (fv)∧V.cell? ⟨w.heap.size,1,none⟩=some (ev)∧V.cell? ⟨w.heap.size,2,none⟩=some (pv)∧V.cell? ⟨w.heap.size,3,none⟩=some (.int .i64 r)∧V.cell? ⟨w.heap.size,4,none⟩=some (.slice ph f.homes.length ch)∧V.cell? ⟨w.heap.size,5,none⟩=some (.slice ps f.slots.length cs)∧V.cell? ⟨w.heap.size,6,none⟩=some (bv)∧V.cell? ⟨Tx,0,none⟩=some (.int .i64 x)∧V.cell? ⟨Tx,1,none⟩=some (.int .i64 y)∧V.cell? ⟨sq,oq+k,none⟩=some (.int .i64 x) from⟨h,(cR ((h.block w.heap.size (by omega)).trans hrS) 0),(cR ((h.block w.heap.size (by omega)).trans hrS) 1),(cR ((h.block w.heap.size (by omega)).trans hrS) 2),(cR ((h.block w.heap.size (by omega)).trans hrS) 3),(cR ((h.block w.heap.size (by omega)).trans hrS) 4),(cR ((h.block w.heap.size (by omega)).trans hrS) 5),(cR ((h.block w.heap.size (by omega)).trans hrS) 6),(cR ((h.block Tx (by omega)).trans hrX) 0),(cR ((h.block Tx (by omega)).trans hrX) 1),(h.cell (World.block_lt_of_cell? U _ cq)).trans cq⟩);have HW:=J (fun(V:World) (h:Below U.heap.size U V)=>Zhm f fv ev pv (.slice ph f.homes.length ch) (.slice ps f.slots.length cs) bv r (x,y) V ((G HH).below (Za hbU h (by omega))) ((G HS).below (Za hbU h (by omega))));clear hrX hrS cq hbU hUs hsz hTU;go_region_held3 (fun V=>Below U.heap.size U V∧V.cell? ⟨w.heap.size,0,none⟩=some (fv)∧V.cell? ⟨w.heap.size,1,none⟩=some (ev)∧V.cell? ⟨w.heap.size,2,none⟩=some (pv)∧V.cell? ⟨w.heap.size,3,none⟩=some (.int .i64 r)∧V.cell? ⟨w.heap.size,4,none⟩=some (.slice ph f.homes.length ch)∧V.cell? ⟨w.heap.size,5,none⟩=some (.slice ps f.slots.length cs)∧V.cell? ⟨w.heap.size,6,none⟩=some (bv)∧V.cell? ⟨Tx,0,none⟩=some (.int .i64 x)∧V.cell? ⟨Tx,1,none⟩=some (.int .i64 y)∧V.cell? ⟨sq,oq+k,none⟩=some (.int .i64 x)) ((first | exact G HK _ (Below.refl _ _).drew | exact G HK _ (G HB5))) ((go_at_call 120; refine(G HW _ (Below.refl _ _).drew).mono ?_; rintro e w5 ⟨rfl,hb5⟩; have HB5:=J (Za (Below.refl U.heap.size U).drew hb5 (Nat.le_refl _)); clear hb5))
     all_goals (
      have hUB:=(G HBU).size;have HB6:=J (Za (G HBU) (G HB5) hUB);cases hsp:Yd f (x,y) with
      | false =>
       have hx:=J (G HBAD (by rw [hsp]; simp));clear hsp;go_wp2;go_ret;exact⟨by rw [G hx]; rfl,Za (G HX).2.1 (G HB6) (by omega)⟩
      | true =>
       have hx:=J (G HNX (by rw [hsp]; simp));clear hsp;go_wp2;go_roundw
       case rel=>exact⟨k+1,by go_num,by omega,G HB6,G hx⟩
       case measure=>simp [intOf]; omega)
    ·
     have zz:(x != z2)=true:=by simpa using hxz
     have hx:=J (G HBAD (by simp [hxz]));have q0:=(cR hrX 0);clear hrX hrS hbU hUs hTU;go_quiet (fail)
     go_wp2;go_ret;exact⟨by rw [G hx]; rfl,Zk (Za (G HX).2.1 (G HBU) (by omega)) _⟩
   ·
    have HT:=J (show Ju f gs ns=true by rw [G HAB]; exact Yn (fun q hq=>G HN q (by omega)));obtain rfl:k=gs.length:=by omega
    have HBW:=J hbw;clear hbw;go_wp2;go_ret;exact⟨by rw [G HT]; rfl,Za (G HX).2.1 (G HBW) (by omega)⟩
 ·
  have z:((gs.length:Int) != (ns.length:Int))=true:=by simp; omega
  have HT:=J (show Ju f gs ns=false by unfold Ju; simp [hne]);clear hne;go_enter Tryz.func118,Tryz.ntmps118
  go_wp2;go_ret;exact⟨by rw [G HT]; rfl,(G HX).2.1⟩
set_option maxHeartbeats 4000000 in
set_option maxRecDepth 100000 in
theorem Zdn (f:Zn)(i:Zw)(s:List Int×Int)(fv ev pv hv sv bv av ov qv:Value)(w:World)(hh:Li w hv f.homes)(hs:Li w sv f.slots)(ha:LS 2 w av i.args.length (fun k=>Yz (i.args.getD k (0,0))))(ho:Li w ov i.outs)(hq:Li w qv s.1):Calls Tryz.prog 114 #[.agg #[fv,ev,pv,.int .i64 f.results,hv,sv,bv],.agg #[.int .i64 i.op,.int .i64 i.d,.int .i64 i.a,.int .i64 i.bb,.int .u64 i.n,.int .i64 i.f,av,ov],.agg #[qv,.int .i64 s.2]] w fun e w'=>e=.returned (.bool (Mp f i s))∧Below w.heap.size w w':=by
 have hx:=Yj w (.cells #[fv,ev,pv,.int .i64 f.results,hv,sv,bv] 173 (0,0));generalize hW1:World.alloc w (.cells #[fv,ev,pv,.int .i64 f.results,hv,sv,bv] 173 (0,0))=W1 at hx;have hx2:=Yj W1 (.cells #[.int .i64 i.op,.int .i64 i.d,.int .i64 i.a,.int .i64 i.bb,.int .u64 i.n,.int .i64 i.f,av,ov] 65 (0,0));generalize hW2:World.alloc W1 (.cells #[.int .i64 i.op,.int .i64 i.d,.int .i64 i.a,.int .i64 i.bb,.int .u64 i.n,.int .i64 i.f,av,ov] 65 (0,0))=W2 at hx2;have hx3:=Yj W2 (.cells #[qv,.int .i64 s.2] 56 (0,0));have hs1:=hx.2.2;have hs2:=hx2.2.2;have hs3:=hx3.2.2;have hb12:=Za hx.2.1 hx2.2.1 (by omega);have hb13:=Za hb12 hx3.2.1 (by omega);have HH:=J (hh.below hb13);have HS:=J (hs.below hb13);have HA:=J (ha.below hb13);have HO:=J (ho.below hb13);have HQ:=J (hq.below hb13);have HW:=J hb13;have HR1:=J ((hx3.2.1.block w.heap.size (by omega)).trans ((hx2.2.1.block w.heap.size (by omega)).trans hx.1));have HR2:=J ((hx3.2.1.block (w.heap.size+1) (by omega)).trans (hs1 ▸ hx2.1));have hr3:=hx3.1;rw [hs2,hs1] at hr3 hs3;have HR3:=J hr3;have HZ:=J hs3;have hhl:f.homes.length<9223372036854775808:=hh.lt;have hol:i.outs.length<9223372036854775808:=ho.lt;obtain⟨ph,ch,rfl⟩:=hh.shape;obtain⟨ps,cs,rfl⟩:=hs.shape;obtain⟨pa,ca,rfl⟩:=ha.shape;obtain⟨po,co,rfl⟩:=ho.shape;obtain⟨pq,cq,rfl⟩:=hq.shape;clear hx hx2 hx3 hs1 hs2 hs3 hb12 hb13 hr3 hh hs ha ho hq;subst hW1 hW2;go_enter Tryz.func114,Tryz.ntmps114
 go_wp2_with fail
 generalize World.alloc (World.alloc (World.alloc w _) _) _=W at HH HS HA HO HQ HW HR1 HR2 HR3 HZ ⊢;refine(It f _ _ _ _ _ _ _ _ _ i.args s.1 W (G HH) (G HS) (G HA) (G HQ)).mono ?_;rintro e w2 ⟨rfl,hb⟩;have HB2:=J hb;have hz:=G HZ;have hri:=(hb.block (w.heap.size+1) (by omega)).trans (G HR2);have hrq:=(hb.block (w.heap.size+1+1) (by omega)).trans (G HR3);have hrs:=(hb.block w.heap.size (by omega)).trans (G HR1);have r7:=(cR hri 7);have q1:=(cR hrq 1);have s0:=(cR hrs 0);have s1:=(cR hrs 1);have s2:=(cR hrs 2);have s3:=(cR hrs 3);have s4:=(cR hrs 4);have s5:=(cR hrs 5);have s6:=(cR hrs 6);clear hb hri hrq hrs hz;cases h1:Ju f i.args s.1 with
 | false =>
  have hx:=J (show Mp f i s=false by unfold Mp; rw [h1]; rfl);clear h1;go_wp2;go_ret;exact⟨by rw [G hx]; rfl,Za (G HW) (G HB2) (by have:=G HZ; omega)⟩
 | true =>
  have H1:=J h1;clear h1;by_cases h2:s.2=f.results
  ·
   have z2:(s.2==f.results)=true:=by simpa using h2
   have hx:=J (show Mp f i s=true by unfold Mp; rw [G H1]; simp [h2]);clear h2;go_wp2;go_ret;exact⟨by rw [G hx]; rfl,Za (G HW) (G HB2) (by have:=G HZ; omega)⟩
  ·
   have z2:(s.2==f.results)=false:=by simpa using h2
   have hx:=J (show Mp f i s=false by unfold Mp; rw [G H1]; simp [h2]);clear h2;go_wp2;go_ret;exact⟨by rw [G hx]; rfl,Za (G HW) (G HB2) (by have:=G HZ; omega)⟩
set_option maxHeartbeats 4000000 in
set_option maxRecDepth 100000 in
theorem Ke (f:Zn)(i:Zw)(s:List Int×Int)(fv ev pv hv sv bv av ov qv:Value)(w:World)(hh:Li w hv f.homes)(hs:Li w sv f.slots)(ha:LS 2 w av i.args.length (fun k=>Yz (i.args.getD k (0,0))))(ho:Li w ov i.outs)(hq:Li w qv s.1)(hon:s.2≤1000000):Calls Tryz.prog 112 #[.agg #[fv,ev,pv,.int .i64 f.results,hv,sv,bv],.agg #[.int .i64 i.op,.int .i64 i.d,.int .i64 i.a,.int .i64 i.bb,.int .u64 i.n,.int .i64 i.f,av,ov],.agg #[qv,.int .i64 s.2]] w fun e w'=>e=.returned (.bool (Jh f i s))∧Below w.heap.size w w':=by
 have hx:=Yj w (.cells #[fv,ev,pv,.int .i64 f.results,hv,sv,bv] 173 (0,0));generalize hW1:World.alloc w (.cells #[fv,ev,pv,.int .i64 f.results,hv,sv,bv] 173 (0,0))=W1 at hx;have hx2:=Yj W1 (.cells #[.int .i64 i.op,.int .i64 i.d,.int .i64 i.a,.int .i64 i.bb,.int .u64 i.n,.int .i64 i.f,av,ov] 65 (0,0));generalize hW2:World.alloc W1 (.cells #[.int .i64 i.op,.int .i64 i.d,.int .i64 i.a,.int .i64 i.bb,.int .u64 i.n,.int .i64 i.f,av,ov] 65 (0,0))=W2 at hx2;have hx3:=Yj W2 (.cells #[qv,.int .i64 s.2] 56 (0,0));have hs1:=hx.2.2;have hs2:=hx2.2.2;have hs3:=hx3.2.2;have hb12:=Za hx.2.1 hx2.2.1 (by omega);have hb13:=Za hb12 hx3.2.1 (by omega);have HH:=J (hh.below hb13);have HS:=J (hs.below hb13);have HA:=J (ha.below hb13);have HO:=J (ho.below hb13);have HQ:=J (hq.below hb13);have HW:=J hb13;have HR1:=J ((hx3.2.1.block w.heap.size (by omega)).trans ((hx2.2.1.block w.heap.size (by omega)).trans hx.1));have HR2:=J ((hx3.2.1.block (w.heap.size+1) (by omega)).trans (hs1 ▸ hx2.1));have hr3:=hx3.1;rw [hs2,hs1] at hr3 hs3;have HR3:=J hr3;have HZ:=J hs3;have hhl:f.homes.length<9223372036854775808:=hh.lt;have hol:i.outs.length<9223372036854775808:=ho.lt;obtain⟨ph,ch,rfl⟩:=hh.shape;obtain⟨ps,cs,rfl⟩:=hs.shape;obtain⟨pa,ca,rfl⟩:=ha.shape;obtain⟨po,co,rfl⟩:=ho.shape;obtain⟨pq,cq,rfl⟩:=hq.shape;clear hx hx2 hx3 hs1 hs2 hs3 hb12 hb13 hr3 hh hs ha ho hq;subst hW1 hW2;go_enter Tryz.func112,Tryz.ntmps112
 go_wp2_with fail
 generalize World.alloc (World.alloc (World.alloc w _) _) _=W at HH HS HA HO HQ HW HR1 HR2 HR3 HZ ⊢;refine(It f _ _ _ _ _ _ _ _ _ i.args s.1 W (G HH) (G HS) (G HA) (G HQ)).mono ?_;rintro e w2 ⟨rfl,hb⟩;have HB2:=J hb;have hz:=G HZ;have hri:=(hb.block (w.heap.size+1) (by omega)).trans (G HR2);have hrq:=(hb.block (w.heap.size+1+1) (by omega)).trans (G HR3);have hrs:=(hb.block w.heap.size (by omega)).trans (G HR1);have r7:=(cR hri 7);have q1:=(cR hrq 1);have s0:=(cR hrs 0);have s1:=(cR hrs 1);have s2:=(cR hrs 2);have s3:=(cR hrs 3);have s4:=(cR hrs 4);have s5:=(cR hrs 5);have s6:=(cR hrs 6);clear hb hri hrq hrs hz;cases h1:Ju f i.args s.1 with
 | false =>
  have hx:=J (show Jh f i s=false by unfold Jh; rw [h1]; rfl);clear h1;go_wp2;go_ret;exact⟨by rw [G hx]; rfl,Za (G HW) (G HB2) (by have:=G HZ; omega)⟩
 | true =>
  have H1:=J h1;clear h1;by_cases h2:(i.outs.length:Int)=s.2
  ·
   have z2:((i.outs.length:Int)==s.2)=true:=by simpa using h2
   go_wp2_with fail
   refine(Yo f _ _ _ _ _ _ _ _ i.outs w2 ⟨_,_,rfl⟩ hhl ((G HO).below (G HB2))).mono ?_;rintro e w3 ⟨rfl,hb⟩;have HB3:=J (Za (G HB2) hb (G HB2).size);have hz:=G HZ;have hri:=((G HB3).block (w.heap.size+1) (by omega)).trans (G HR2);have r7:=(cR hri 7);clear hb hri hz;cases h3:Xg f i.outs with
   | false =>
    have hx:=J (show Jh f i s=false by unfold Jh; rw [h3]; simp);clear h3;go_wp2;go_ret;exact⟨by rw [G hx]; rfl,Za (G HW) (G HB3) (by have:=G HZ; omega)⟩
   | true =>
    have H3:=J h3;have hl6:i.outs.length≤1000000:=by omega
    have H2:=J h2;clear h3 h2;go_wp2_with fail
    refine(Zdm _ i.outs w3 ((G HO).below (G HB3)) hl6).mono ?_;rintro e w4 ⟨rfl,h4'⟩;subst w4;have HT:=J (show Jh f i s=Ol i.outs by unfold Jh; rw [G H1,G H3]; simp [G H2]);go_wp2;go_ret;exact⟨by rw [G HT]; rfl,Za (G HW) (G HB3) (by have:=G HZ; omega)⟩
  ·
   have z2:((i.outs.length:Int)==s.2)=false:=by simpa using h2
   have hx:=J (show Jh f i s=false by unfold Jh; simp [h2]);clear h2;go_wp2;go_ret;exact⟨by rw [G hx]; rfl,Za (G HW) (G HB2) (by have:=G HZ; omega)⟩
end Go.Proofs.YteddfaconabobaaGreatDoor
