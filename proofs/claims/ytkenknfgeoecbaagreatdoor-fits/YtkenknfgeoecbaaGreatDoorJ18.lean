import Derived.Test.YtkenknfgeoecbaaGreatDoorJ17
import Derived.Test.YtkenknfgeoecbaaGreatDoorJ11
namespace Go.Proofs.YtkenknfgeoecbaaGreatDoor
open Go.RowKit
set_option maxHeartbeats 8000000
set_option maxRecDepth 100000
def Gz (w:World)(v:Value)(x:Zbt):Prop:=(v=.nilIface∧x=⟨0,-1,-1,-1⟩)∨(∃ n,n≠0∧v=.iface 127 (.int .i64 n)∧x=⟨n,-1,-1,-1⟩)∨∃ q,x.e≠0∧v=.iface 130 (.pointer (some ⟨q,0,none⟩))∧Gv w q x.e x.f x.b x.a
structure Zld (w:World)(va vr vs:Value)(ag rs ss:List Int):Prop where
 a:Rs w va ag
 r:Rs w vr rs
 s:Rs w vs ss
 ca:∀ a n cap,va=.slice a n cap->n<=cap
 cr:∀ a n cap,vr=.slice a n cap->n<=cap
 cs:∀ a n cap,vs=.slice a n cap->n<=cap
theorem Zld.below {w w':World}{va vr vs:Value}{ag rs ss:List Int}(h:Zld w va vr vs ag rs ss)(hb:Below w.heap.size w w'):Zld w' va vr vs ag rs ss:=⟨h.a.below hb,h.r.below hb,h.s.below hb,h.ca,h.cr,h.cs⟩
theorem Zpu {r sp lk t0 t1:Int}{ag rs ss:List Int}{al sh by_:Int}(h:Jl r sp lk t0 t1 ag rs ss al sh by_=true):4<=r∧r<=16:=by unfold Jl Zaf at h;simp at h;omega
theorem Zxz {r:Int}{own:List Int}{p:Zk}(hc:Jf p=true)(hh:∀ k,k<p.funcs.length->Yv r own (p.funcs.getD k Zh)=true)(k:Nat)(hk:k<p.funcs.length):Zss p (p.funcs.getD k Zh):=by
 have key:∀ j,j<p.funcs.length->(p.funcs.getD j Zh).params.length<=8∧(p.funcs.getD j Zh).results<=4∧Jv (p.funcs.getD j Zh).slots 1 8=true:=fun j hj=>by
  have h:=hh j hj;unfold Yv at h;simp only [Bool.and_eq_true,decide_eq_true_eq] at h;obtain⟨h1,h2,h3,h4,h5,h6,-⟩:=h;unfold Od Xl at h2;simp only [Bool.and_eq_true,decide_eq_true_eq] at h2;exact⟨h1,h2.2.1.2,h6⟩
 refine⟨(key k hk).2.2,fun j hj=>⟨(key j hj).1,(key j hj).2.1⟩,fun j hj=>?_⟩;unfold Jf at hc;simp only [Bool.and_eq_true,decide_eq_true_eq] at hc;have h:=Je hc.2.2 hj;unfold Od Xl at h;simp only [Bool.and_eq_true,decide_eq_true_eq] at h;exact h.2.1.2
theorem Zpv {p:Zk}{f:Zj}(h:Oc p f=true):Gr p f=(-1,-1):=by unfold Gr;rw [Nl (fun q hq=>Je h hq)]
theorem Zpw {p:Zk}{f:Zj}(h:Oc p f=false):0<=(Gr p f).1:=by
 unfold Gr;cases hf:Lo f.blocks.length (Zig p f) with
 | some k=>simp
 | none =>
  exfalso
  have:Oc p f=true:=Gl fun k hk=>by
   unfold Lo at hf;rw [List.find?_eq_none] at hf;have:=hf k (List.mem_range.2 hk);simpa using this
  rw [this] at h;cases h
def Zpx (p:Zk):Prop:=∀ k,Yfz (p.funcs.getD k Zh)
theorem Zco (r sp lk t0 t1:Int)(va vr vs:Value)(al sh by_:Int)(pr:Bool)(ag rs ss:List Int)(p:Zk)(fv ev:Value)(A E:Nat->Array Value)(w:World)(hT:Zld w va vr vs ag rs ss)(hP:Mo w fv ev p A E)(hnn:Zpx p)(hN:Zp w)(h1w:2<w.heap.size) :
 Calls Tryz.prog 51 #[.agg (Zu r sp lk t0 t1 va vr vs al sh by_ pr),.agg #[fv,ev]] w fun e w'=>∃ v,e=.returned v∧Gz w' v (Oe (Jl r sp lk t0 t1 ag rs ss al sh by_) r (Yp sp lk t0 t1) p)∧Below w.heap.size w w':=by
 have hx:=al0 w (.cells (Zu r sp lk t0 t1 va vr vs al sh by_ pr) 25 (0,0));generalize hW1:World.alloc w (.cells (Zu r sp lk t0 t1 va vr vs al sh by_ pr) 25 (0,0))=W1 at hx;have hx2:=al0 W1 (.cells #[fv,ev] 62 (0,0));have hs1:=hx.2.2;have hs2:=hx2.2.2;have hb12:=Zc hx.2.1 hx2.2.1 (by omega);have HT:=O (hT.below hb12);have HP:=O (hP.below hb12);have HNA:=O (hN.keep hb12);have HW:=O hb12;have HR1:=O ((hx2.2.1.block w.heap.size (by omega)).trans hx.1);have hr2:=hx2.1;rw [hs1] at hr2 hs2;have HR2:=O hr2;have HZ:=O hs2;have HNN:=O hnn;have H1W:=O h1w;have hl4:p.funcs.length<9223372036854775808:=by obtain⟨_,_,_,_,h,_⟩:=hP.fs; exact h
 obtain⟨pf,cf,rfl⟩:=hP.fs.shape;obtain⟨pe,ce,rfl⟩:=hP.es.shape;obtain⟨pva,cva,rfl⟩:=hT.a.shape;obtain⟨pvr,cvr,rfl⟩:=hT.r.shape;obtain⟨pvs,cvs,rfl⟩:=hT.s.shape;clear hx hx2 hs1 hs2 hb12 hr2 hT hP hnn hN h1w;subst hW1;unfold Zu at HR1 ⊢;go_enter Tryz.func51,Tryz.ntmps51
 go_wp2_with fail
 unfold Zu at HW HT HP HNA HR2 HZ;generalize World.alloc (World.alloc w _) _=W at HT HP HNA HW HR1 HR2 HZ ⊢;refine(Zcj r sp lk t0 t1 _ _ _ al sh by_ pr ag rs ss W (J HT).a (J HT).r (J HT).s (J HT).ca (J HT).cr (J HT).cs).mono ?_;rintro e w2 ⟨rfl,hb⟩;have HB2:=O hb;have hz:=J HZ;have hrp:=(hb.block (w.heap.size+1) (by omega)).trans (J HR2);have p0:=(cR hrp 0);have p1:=(cR hrp 1);clear hb hrp hz;cases htb:Jl r sp lk t0 t1 ag rs ss al sh by_ with
 | false=>have hc:=O (show Oe (Jl r sp lk t0 t1 ag rs ss al sh by_) r (Yp sp lk t0 t1) p=⟨2,-1,-1,-1⟩ by rw [htb]; rfl);clear htb;unfold Zhx;go_wp2;go_ret;exact⟨_,rfl,by rw [J hc]; exact Or.inr (Or.inl ⟨2,by decide,rfl,rfl⟩),Zc (J HW) (J HB2) (by have:=J HZ; omega)⟩
 | true =>
  have HR:=O (Zpu htb);have HTB:=O htb;clear htb;unfold Zhx;go_wp2_with fail
  refine(Zie p _ _ A E w2 ((J HP).below (J HB2))).mono ?_;rintro e w3 ⟨rfl,hb⟩;have HB3:=O (Zc (J HB2) hb (J HB2).size);have hz:=J HZ;have hrp:=((J HB3).block (w.heap.size+1) (by omega)).trans (J HR2);clear p0 p1;have p0:=(cR hrp 0);have p1:=(cR hrp 1);clear hb hrp hz;cases hcb:Jf p with
  | false=>have hc:=O (show Oe (Jl r sp lk t0 t1 ag rs ss al sh by_) r (Yp sp lk t0 t1) p=⟨5,-1,-1,-1⟩ by rw [J HTB]; unfold Oe; rw [hcb]; rfl);clear hcb;go_wp2;go_ret;exact⟨_,rfl,by rw [J hc]; exact Or.inr (Or.inl ⟨5,by decide,rfl,rfl⟩),Zc (J HW) (J HB3) (by have:=J HZ; omega)⟩
  | true =>
   have HCB:=O hcb;clear hcb;go_wp2_with fail
   go_loopw [22] (fun j w'=>∃ k:Nat,j=.int .i64 k∧k<=p.funcs.length∧Below W.heap.size W w'∧∀ q,q<k->Yv r (Yp sp lk t0 t1) (p.funcs.getD q Zh)=true) (fun j _=>p.funcs.length-(intOf j).toNat)
   case atStart=>exact⟨0,rfl,by omega,J HB3,fun q hq=>by omega⟩
   case round =>
    obtain⟨k,rfl,hk,hbw,hno⟩:=hrel;have HNO:=O hno;clear hno p0 p1;by_cases hk2:k<p.funcs.length
    ·obtain⟨p',cap',he,-,hcc⟩:=(J HP).fs.fives;injection he with e1 e2 e3;subst e1 e3;obtain⟨sb,so,rfl,hslt,hcel⟩:=hcc (by omega);have hfc:=(J HP).feach k hk2;have hgd:p.funcs[k]=p.funcs.getD k Zh:=by simp [List.getD,hk2]
     rw [hgd] at hfc;have HBAD:=O (fun hb:Yv r (Yp sp lk t0 t1) (p.funcs.getD k Zh)=false=>show Oe (Jl r sp lk t0 t1 ag rs ss al sh by_) r (Yp sp lk t0 t1) p=⟨5,k,-1,-1⟩ by rw [J HTB]; unfold Oe; rw [J HCB,Un (ok:=fun k=>Yv r (Yp sp lk t0 t1) (p.funcs.getD k Zh)) (J HNO) hk2 hb]; rfl);have HNX:=O (fun hb:Yv r (Yp sp lk t0 t1) (p.funcs.getD k Zh)=true=>Xp (q:=fun q=>Yv r (Yp sp lk t0 t1) (p.funcs.getD q Zh)) (J HNO) hb);generalize p.funcs.getD k Zh=f at hfc HBAD HNX;obtain⟨gv,hv,sv,bv,B,hA,hfd⟩:=hfc;have HFD:=O hfd;obtain⟨gp,gc,rfl⟩:=hfd.ps.shape;obtain⟨hp,hc,rfl⟩:=hfd.hs.shape;obtain⟨xp,xc,rfl⟩:=hfd.ss.shape;obtain⟨yp,yc,rfl⟩:=hfd.bs.shape;have hck:=hcel k hk2;rw [hA] at hck;have k0:=(hbw.cell hslt).trans (hck 0 _ rfl);have k1:=(hbw.cell hslt).trans (hck 1 _ rfl);have k2:=(hbw.cell hslt).trans (hck 2 _ rfl);have k3:=(hbw.cell hslt).trans (hck 3 _ rfl);have k4:=(hbw.cell hslt).trans (hck 4 _ rfl);rw [Nat.add_zero] at k0;have hsU:sb<wr.heap.size:=Nat.lt_of_lt_of_le hslt hbw.size;have hz:=J HZ;have hrB:=(hbw.block w.heap.size (by omega)).trans (J HR1);have hrP:=(hbw.block (w.heap.size+1) (by omega)).trans (J HR2);have hws:=hbw.size;have HK:=O (fun(V:World) (h:Below wr.heap.size wr V)=>show Below wr.heap.size wr V∧V.cell? ⟨w.heap.size,0,none⟩=some (.int .i64 r)∧V.cell? ⟨w.heap.size,1,none⟩=some (.int .i64 sp)∧V.cell? ⟨w.heap.size,2,none⟩=some (.int .i64 lk)∧V.cell? ⟨w.heap.size,3,none⟩=some (.int .i64 t0)∧V.cell? ⟨w.heap.size,4,none⟩=some (.int .i64 t1)∧V.cell? ⟨w.heap.size,5,none⟩=some (.slice pva ag.length cva)∧V.cell? ⟨w.heap.size,6,none⟩=some (.slice pvr rs.length cvr)∧V.cell? ⟨w.heap.size,7,none⟩=some (.slice pvs ss.length cvs)∧V.cell? ⟨w.heap.size,8,none⟩=some (.int .i64 al)∧V.cell? ⟨w.heap.size,9,none⟩=some (.int .i64 sh)∧V.cell? ⟨w.heap.size,10,none⟩=some (.int .i64 by_)∧V.cell? ⟨w.heap.size,11,none⟩=some (.bool pr)∧V.cell? ⟨w.heap.size+1,0,none⟩=some (.slice (some ⟨sb,so,none⟩) p.funcs.length cf)∧V.cell? ⟨w.heap.size+1,1,none⟩=some (.slice pe p.externs.length ce)∧V.cell? ⟨sb,so+k*5,none⟩=some (.slice gp f.params.length gc)∧V.cell? ⟨sb,so+k*5+1,none⟩=some (.int .i64 f.results)∧V.cell? ⟨sb,so+k*5+2,none⟩=some (.slice hp f.homes.length hc)∧V.cell? ⟨sb,so+k*5+3,none⟩=some (.slice xp f.slots.length xc)∧V.cell? ⟨sb,so+k*5+4,none⟩=some (.slice yp f.blocks.length yc) from⟨h,(cR ((h.block w.heap.size (by omega)).trans hrB) 0),(cR ((h.block w.heap.size (by omega)).trans hrB) 1),(cR ((h.block w.heap.size (by omega)).trans hrB) 2),(cR ((h.block w.heap.size (by omega)).trans hrB) 3),(cR ((h.block w.heap.size (by omega)).trans hrB) 4),(cR ((h.block w.heap.size (by omega)).trans hrB) 5),(cR ((h.block w.heap.size (by omega)).trans hrB) 6),(cR ((h.block w.heap.size (by omega)).trans hrB) 7),(cR ((h.block w.heap.size (by omega)).trans hrB) 8),(cR ((h.block w.heap.size (by omega)).trans hrB) 9),(cR ((h.block w.heap.size (by omega)).trans hrB) 10),(cR ((h.block w.heap.size (by omega)).trans hrB) 11),(cR ((h.block (w.heap.size+1) (by omega)).trans hrP) 0),(cR ((h.block (w.heap.size+1) (by omega)).trans hrP) 1),(h.cell hsU).trans k0,(h.cell hsU).trans k1,(h.cell hsU).trans k2,(h.cell hsU).trans k3,(h.cell hsU).trans k4⟩)
     have HK0:=O (J HK wr.drew (Below.refl wr.heap.size wr).drew);have HBW:=O hbw;have HWD:=O (Zc hbw (Below.refl wr.heap.size wr).drew hws);have HHF:=O (Zla r sp lk t0 t1 (.slice pva ag.length cva) (.slice pvr rs.length cvr) (.slice pvs ss.length cvs) al sh by_ pr f (.slice gp f.params.length gc) (.slice hp f.homes.length hc) (.slice xp f.slots.length xc) (.slice yp f.blocks.length yc) B wr.drew (J HR) ((J HFD).below (J HWD)));unfold Zu at HHF;clear hfd hck hcc hcel hA hgd hbw e2 hz hrB hrP k0 k1 k2 k3 k4;go_wp2_with fail
     refine wp_region_held_drew (S:=fun V=>Below wr.heap.size wr V∧V.cell? ⟨w.heap.size,0,none⟩=some (.int .i64 r)∧V.cell? ⟨w.heap.size,1,none⟩=some (.int .i64 sp)∧V.cell? ⟨w.heap.size,2,none⟩=some (.int .i64 lk)∧V.cell? ⟨w.heap.size,3,none⟩=some (.int .i64 t0)∧V.cell? ⟨w.heap.size,4,none⟩=some (.int .i64 t1)∧V.cell? ⟨w.heap.size,5,none⟩=some (.slice pva ag.length cva)∧V.cell? ⟨w.heap.size,6,none⟩=some (.slice pvr rs.length cvr)∧V.cell? ⟨w.heap.size,7,none⟩=some (.slice pvs ss.length cvs)∧V.cell? ⟨w.heap.size,8,none⟩=some (.int .i64 al)∧V.cell? ⟨w.heap.size,9,none⟩=some (.int .i64 sh)∧V.cell? ⟨w.heap.size,10,none⟩=some (.int .i64 by_)∧V.cell? ⟨w.heap.size,11,none⟩=some (.bool pr)∧V.cell? ⟨w.heap.size+1,0,none⟩=some (.slice (some ⟨sb,so,none⟩) p.funcs.length cf)∧V.cell? ⟨w.heap.size+1,1,none⟩=some (.slice pe p.externs.length ce)∧V.cell? ⟨sb,so+k*5,none⟩=some (.slice gp f.params.length gc)∧V.cell? ⟨sb,so+k*5+1,none⟩=some (.int .i64 f.results)∧V.cell? ⟨sb,so+k*5+2,none⟩=some (.slice hp f.homes.length hc)∧V.cell? ⟨sb,so+k*5+3,none⟩=some (.slice xp f.slots.length xc)∧V.cell? ⟨sb,so+k*5+4,none⟩=some (.slice yp f.blocks.length yc)) (by kernel_rfl) (J HK0) (fun hHeld=>?_);refine tT 0 ?_;refine tT 1 ?_;refine tT 2 ?_;refine tT 3 ?_;refine tT 4 ?_;refine tT 5 ?_;refine tO 6 fun K hK=>?_;go_simp;refine(J HHF).mono ?_;rintro e w5 ⟨rfl,hb5⟩
     have HB5:=O (Zc (Below.refl wr.heap.size wr).drew hb5 (Nat.le_refl _));have HB6:=O (Zc (J HWD) hb5 (by have:=(J HWD).size; omega));clear hb5;go_wp2_with fail
     refine kO hK (J HK _ (J HB5)) (fun hHeld2=>?_);clear hK K;refine tT 7 ?_;refine wpAnyH_done (by kernel_rfl) ?_ _;have hz:=J HZ;cases hhb:Yv r (Yp sp lk t0 t1) f with
     | false =>
      have hz2:=O (J HBAD hhb);clear hhb;go_wp2_with fail
      refine(Znw k (-1) (-1) w5).mono ?_;rintro e w6 ⟨rfl,h6⟩;subst w6;have hy:=al0 w5 (.cells #[.iface 127 (.int .i64 5),.int .i64 k,.int .i64 (-1),.int .i64 (-1)] 133 (0,0));have HY:=O hy;clear hy;go_wp2;go_ret;refine⟨_,rfl,?_,Zc (Zc (J HW) (J HB6) (by omega)) (J HY).2.1 (by have:=(J HW).size; have:=(J HB6).size; omega)⟩;rw [J hz2];exact Or.inr (Or.inr ⟨_,(show(5:Int)≠0 by decide),rfl,⟨(cR (J HY).1 0),(cR (J HY).1 1),(cR (J HY).1 2),(cR (J HY).1 3)⟩⟩)
     | true =>
      have hz2:=O (J HNX hhb);clear hhb;go_wp2;go_roundw
      case rel=>exact⟨k+1,by go_num,by omega,J HB6,J hz2⟩
      case measure=>simp [intOf]; omega
    ·have HHD:=O (show ∀ q,q<p.funcs.length->Yv r (Yp sp lk t0 t1) (p.funcs.getD q Zh)=true from fun q hq=>J HNO q (by omega));obtain rfl:k=p.funcs.length:=by omega
     have HBW:=O hbw;have hz:=J HZ;have hrp:=(hbw.block (w.heap.size+1) (by omega)).trans (J HR2);have p0:=(cR hrp 0);clear hbw hrp hz HNO;go_wp2_with fail
     generalize hwr:wr=V0 at HBW ⊢;clear hwr p0;go_loopw [39] (fun j w'=>∃ k:Nat,j=.int .i64 k∧k<=p.funcs.length∧Below W.heap.size W w'∧∀ q,q<k->Oc p (p.funcs.getD q Zh)=true) (fun j _=>p.funcs.length-(intOf j).toNat)
     case atStart=>exact⟨0,rfl,by omega,J HBW,fun q hq=>by omega⟩
     case round =>
      obtain⟨k,rfl,hk,hbw,hno⟩:=hrel;have HNO:=O hno;clear hno;by_cases hk2:k<p.funcs.length
      ·obtain⟨p',cap',he,-,hcc⟩:=(J HP).fs.fives;injection he with e1 e2 e3;subst e1 e3;obtain⟨sb,so,rfl,hslt,hcel⟩:=hcc (by omega);have hfc:=(J HP).feach k hk2;have hgd:p.funcs[k]=p.funcs.getD k Zh:=by simp [List.getD,hk2]
       rw [hgd] at hfc;have HCH:=O (show Oe (Jl r sp lk t0 t1 ag rs ss al sh by_) r (Yp sp lk t0 t1) p=match Lo p.funcs.length (fun k=>Oc p (p.funcs.getD k Zh)) with | some k=>⟨5,k,(Gr p (p.funcs.getD k Zh)).1,(Gr p (p.funcs.getD k Zh)).2⟩ | none=>⟨0,-1,-1,-1⟩ by rw [J HTB]; unfold Oe; rw [J HCB,Nl (ok:=fun k=>Yv r (Yp sp lk t0 t1) (p.funcs.getD k Zh)) (J HHD)]; rfl);have HBAD:=O (fun hb:Oc p (p.funcs.getD k Zh)=false=>show Oe (Jl r sp lk t0 t1 ag rs ss al sh by_) r (Yp sp lk t0 t1) p=⟨5,k,(Gr p (p.funcs.getD k Zh)).1,(Gr p (p.funcs.getD k Zh)).2⟩ by rw [J HCH,Un (ok:=fun k=>Oc p (p.funcs.getD k Zh)) (J HNO) hk2 hb]);have HNX:=O (fun hb:Oc p (p.funcs.getD k Zh)=true=>Xp (q:=fun q=>Oc p (p.funcs.getD q Zh)) (J HNO) hb);have HFIT:=O (Zxz (J HCB) (J HHD) k hk2);have HNF:=O ((J HNN) k);generalize p.funcs.getD k Zh=f at hfc HBAD HNX HFIT HNF;obtain⟨gv,hv,sv,bv,B,hA,hfd⟩:=hfc;have HFD:=O hfd;obtain⟨gp,gc,rfl⟩:=hfd.ps.shape;obtain⟨hp,hc,rfl⟩:=hfd.hs.shape;obtain⟨xp,xc,rfl⟩:=hfd.ss.shape;obtain⟨yp,yc,rfl⟩:=hfd.bs.shape;have hck:=hcel k hk2;rw [hA] at hck;have k0:=(hbw.cell hslt).trans (hck 0 _ rfl);have k1:=(hbw.cell hslt).trans (hck 1 _ rfl);have k2:=(hbw.cell hslt).trans (hck 2 _ rfl);have k3:=(hbw.cell hslt).trans (hck 3 _ rfl);have k4:=(hbw.cell hslt).trans (hck 4 _ rfl);rw [Nat.add_zero] at k0;have hsU:sb<wr.heap.size:=Nat.lt_of_lt_of_le hslt hbw.size;have hz:=J HZ;have hrB:=(hbw.block w.heap.size (by omega)).trans (J HR1)
       have hrP:=(hbw.block (w.heap.size+1) (by omega)).trans (J HR2);have hws:=hbw.size;have HK:=O (fun(V:World) (h:Below wr.heap.size wr V)=>show Below wr.heap.size wr V∧V.cell? ⟨w.heap.size+1,0,none⟩=some (.slice (some ⟨sb,so,none⟩) p.funcs.length cf)∧V.cell? ⟨w.heap.size+1,1,none⟩=some (.slice pe p.externs.length ce)∧V.cell? ⟨sb,so+k*5,none⟩=some (.slice gp f.params.length gc)∧V.cell? ⟨sb,so+k*5+1,none⟩=some (.int .i64 f.results)∧V.cell? ⟨sb,so+k*5+2,none⟩=some (.slice hp f.homes.length hc)∧V.cell? ⟨sb,so+k*5+3,none⟩=some (.slice xp f.slots.length xc)∧V.cell? ⟨sb,so+k*5+4,none⟩=some (.slice yp f.blocks.length yc) from⟨h,(cR ((h.block (w.heap.size+1) (by omega)).trans hrP) 0),(cR ((h.block (w.heap.size+1) (by omega)).trans hrP) 1),(h.cell hsU).trans k0,(h.cell hsU).trans k1,(h.cell hsU).trans k2,(h.cell hsU).trans k3,(h.cell hsU).trans k4⟩);have HK0:=O (J HK wr.drew (Below.refl wr.heap.size wr).drew);have HBW2:=O hbw;have HWD:=O (Zc hbw (Below.refl wr.heap.size wr).drew hws);have HHF:=O (Zgk p f (.slice (some ⟨sb,so,none⟩) p.funcs.length cf) (.slice pe p.externs.length ce) (.slice gp f.params.length gc) (.slice hp f.homes.length hc) (.slice xp f.slots.length xc) (.slice yp f.blocks.length yc) A E B wr.drew ⟨(J HP).below (J HWD),(J HFD).below (J HWD)⟩ (J HFIT) (J HNF) ((J HNA).keep (J HWD)) (by have h1:=J H1W; have h2:=(J HW).size; have h3:=(J HWD).size; omega));clear hfd hck hcc hcel hA hgd hbw e2 hz hrB hrP k0 k1 k2 k3 k4
       generalize hwx:Gr p f=wx at HHF HBAD;obtain⟨wb,wa⟩:=wx;have HWX:=O hwx;clear hwx;simp only at HHF HBAD;go_wp2_with fail
       refine wp_region_held_drew (S:=fun V=>Below wr.heap.size wr V∧V.cell? ⟨w.heap.size+1,0,none⟩=some (.slice (some ⟨sb,so,none⟩) p.funcs.length cf)∧V.cell? ⟨w.heap.size+1,1,none⟩=some (.slice pe p.externs.length ce)∧V.cell? ⟨sb,so+k*5,none⟩=some (.slice gp f.params.length gc)∧V.cell? ⟨sb,so+k*5+1,none⟩=some (.int .i64 f.results)∧V.cell? ⟨sb,so+k*5+2,none⟩=some (.slice hp f.homes.length hc)∧V.cell? ⟨sb,so+k*5+3,none⟩=some (.slice xp f.slots.length xc)∧V.cell? ⟨sb,so+k*5+4,none⟩=some (.slice yp f.blocks.length yc)) (by kernel_rfl) (J HK0) (fun hHeld=>?_);refine tT 0 ?_;refine tT 1 ?_;refine tT 2 ?_;refine tT 3 ?_;refine tT 4 ?_;refine tT 5 ?_;refine tO 6 fun K hK=>?_;go_simp;refine(J HHF).mono ?_;rintro e w5 ⟨rfl,hb5⟩;have HB5:=O (Zc (Below.refl wr.heap.size wr).drew hb5 (Nat.le_refl _));have HB6:=O (Zc (J HWD) hb5 (by have:=(J HWD).size; omega));clear hb5;go_wp2_with fail
       refine kO hK (J HK _ (J HB5)) (fun hHeld2=>?_);clear hK K;refine tT 7 ?_;refine tT 8 ?_;refine tT 9 ?_;refine tT 10 ?_;refine tT 11 ?_;refine wpAnyH_done (by kernel_rfl) ?_ _;have hz:=J HZ;cases hhb:Oc p f with
       | false =>
        have hz2:=O (J HBAD hhb);have hwb:0<=wb:=by have:=Zpw hhb; rw [J HWX] at this; exact this
        clear hhb;go_wp2_with fail
        refine(Znw k wb wa w5).mono ?_;rintro e w6 ⟨rfl,h6⟩;subst w6;have hy:=al0 w5 (.cells #[.iface 127 (.int .i64 5),.int .i64 k,.int .i64 wb,.int .i64 wa] 133 (0,0));have HY:=O hy;clear hy;go_wp2;go_ret;refine⟨_,rfl,?_,Zc (Zc (J HW) (J HB6) (by omega)) (J HY).2.1 (by have:=(J HW).size; have:=(J HB6).size; omega)⟩;rw [J hz2];exact Or.inr (Or.inr ⟨_,(show(5:Int)≠0 by decide),rfl,⟨(cR (J HY).1 0),(cR (J HY).1 1),(cR (J HY).1 2),(cR (J HY).1 3)⟩⟩)
       | true =>
        have hz2:=O (J HNX hhb);obtain⟨rfl,rfl⟩:wb=-1∧wa=-1:=by have:=Zpv hhb; rw [J HWX] at this; injection this with a b; exact⟨a,b⟩
        clear hhb;go_wp2;go_roundw
        case rel=>exact⟨k+1,by go_num,by omega,J HB6,J hz2⟩
        case measure=>simp [intOf]; omega
      ·have hz2:=O (show Oe (Jl r sp lk t0 t1 ag rs ss al sh by_) r (Yp sp lk t0 t1) p=⟨0,-1,-1,-1⟩ by rw [J HTB]; unfold Oe; rw [J HCB,Nl (ok:=fun k=>Yv r (Yp sp lk t0 t1) (p.funcs.getD k Zh)) (J HHD),Nl (ok:=fun k=>Oc p (p.funcs.getD k Zh)) (fun q hq=>J HNO q (by omega))]; rfl);obtain rfl:k=p.funcs.length:=by omega
       have HBW3:=O hbw;clear hbw;go_wp2;go_ret;exact⟨_,rfl,by rw [J hz2]; exact Or.inl ⟨rfl,rfl⟩,Zc (J HW) (J HBW3) (by have:=J HZ; omega)⟩
set_option maxHeartbeats 2000000
set_option maxRecDepth 100000
theorem Ydc (r sp lk t0 t1:Int)(va vr vs:Value)(al sh by_:Int)(pr:Bool)(ag rs ss:List Int)(p:Zk)(fv ev:Value)(A E:Nat->Array Value)(w:World)(hT:Zld w va vr vs ag rs ss)(hP:Mo w fv ev p A E)(hnn:Zpx p)(hN:Zp w)(h1w:2<w.heap.size) :
 Calls Tryz.prog 36 #[.agg (Zu r sp lk t0 t1 va vr vs al sh by_ pr),.agg #[fv,ev]] w fun e w'=>∃ v,e=.returned v∧Gz w' v (Oe (Jl r sp lk t0 t1 ag rs ss al sh by_) r (Yp sp lk t0 t1) p)∧Below w.heap.size w w':=by
 have hx:=al0 w (.cells (Zu r sp lk t0 t1 va vr vs al sh by_ pr) 25 (0,0));generalize hW1:World.alloc w (.cells (Zu r sp lk t0 t1 va vr vs al sh by_ pr) 25 (0,0))=W1 at hx;have hx2:=al0 W1 (.cells #[fv,ev] 62 (0,0));have hs1:=hx.2.2;have hs2:=hx2.2.2;have hb12:=Zc hx.2.1 hx2.2.1 (by omega);have HCK:=O (Zco r sp lk t0 t1 va vr vs al sh by_ pr ag rs ss p fv ev A E _ (hT.below hb12) (hP.below hb12) hnn (hN.keep hb12) (by omega));have HW:=O hb12;have HSZ:=O (show w.heap.size<=(W1.alloc (.cells #[fv,ev] 62 (0,0))).heap.size by omega);obtain⟨pf,cf,rfl⟩:=hP.fs.shape;obtain⟨pe,ce,rfl⟩:=hP.es.shape;obtain⟨pva,cva,rfl⟩:=hT.a.shape;obtain⟨pvr,cvr,rfl⟩:=hT.r.shape;obtain⟨pvs,cvs,rfl⟩:=hT.s.shape;clear hx hx2 hs1 hs2 hb12 hT hP hnn hN h1w;subst hW1;unfold Zu at HCK HW HSZ ⊢;go_enter Tryz.func36,Tryz.ntmps36
 go_wp2_with fail
 generalize World.alloc (World.alloc w _) _=W at HCK HW HSZ ⊢;refine(J HCK).mono ?_;rintro e w2 ⟨v,rfl,he,hb⟩;have HE:=O he;have HB:=O (Zc (J HW) hb (J HSZ));clear he hb;go_wp2;go_ret;exact⟨_,rfl,J HE,J HB⟩
theorem Zcp {w:World}{v:Value}{x:Zbt}(hE:Yd w)(h:Gz w v x):Calls Tryz.prog 26 #[v] w fun e w'=>e=.returned (Rm x.e x.f x.b x.a)∧Below w.heap.size w w':=by
 rcases h with⟨rfl,rfl⟩ | ⟨n,-,rfl,rfl⟩ | ⟨q,-,rfl,hb⟩
 ·exact Md w
 ·exact Me n w hE
 ·exact Zao _ _ _ _ q w hE hb
theorem Yd.keep {w w':World}(h:Yd w)(hb:Below w.heap.size w w'):Yd w':=(hb.cell (World.block_lt_of_cell? w _ h)).trans h
theorem Gz.shape {w:World}{v:Value}{x:Zbt}(h:Gz w v x):v=.nilIface∨∃ t u,v=.iface t u:=by
 rcases h with⟨rfl,rfl⟩ | ⟨n,-,rfl,rfl⟩ | ⟨q,-,rfl,hb⟩
 ·exact Or.inl rfl
 ·exact Or.inr ⟨_,_,rfl⟩
 ·exact Or.inr ⟨_,_,rfl⟩
theorem Tryz.infFltK:(Tryz.prog.info? 29).map (·.size)=some 4:=by kernel_rfl
theorem Zya (r sp lk t0 t1:Int)(va vr vs:Value)(al sh by_:Int)(pr:Bool)(ag rs ss:List Int)(p:Zk)(fv ev:Value)(A E:Nat->Array Value)(w:World)(hT:Zld w va vr vs ag rs ss)(hP:Mo w fv ev p A E)(hnn:Zpx p)(hN:Zp w)(h1w:2<w.heap.size)(hE:Yd w) :
 Calls Tryz.prog 23 #[.agg (Zu r sp lk t0 t1 va vr vs al sh by_ pr),.agg #[fv,ev]] w fun e w'=>e=.returned (Rm (Oe (Jl r sp lk t0 t1 ag rs ss al sh by_) r (Yp sp lk t0 t1) p).e (Oe (Jl r sp lk t0 t1 ag rs ss al sh by_) r (Yp sp lk t0 t1) p).f (Oe (Jl r sp lk t0 t1 ag rs ss al sh by_) r (Yp sp lk t0 t1) p).b (Oe (Jl r sp lk t0 t1 ag rs ss al sh by_) r (Yp sp lk t0 t1) p).a)∧Below w.heap.size w w':=by
 have hx:=al0 w (.cells (Zu r sp lk t0 t1 va vr vs al sh by_ pr) 25 (0,0));generalize hW1:World.alloc w (.cells (Zu r sp lk t0 t1 va vr vs al sh by_ pr) 25 (0,0))=W1 at hx;have hx2:=al0 W1 (.cells #[fv,ev] 62 (0,0));generalize hW2:World.alloc W1 (.cells #[fv,ev] 62 (0,0))=W2 at hx2;have hx3:=al0 W2 (.cells #[.int .i64 0,.int .i64 0,.int .i64 0,.int .i64 0] 29 (0,0));have hs1:=hx.2.2;have hs2:=hx2.2.2;have hs3:=hx3.2.2;have hb12:=Zc (Zc hx.2.1 hx2.2.1 (by omega)) hx3.2.1 (by omega);have HCK:=O (Ydc r sp lk t0 t1 va vr vs al sh by_ pr ag rs ss p fv ev A E _ (hT.below hb12) (hP.below hb12) hnn (hN.keep hb12) (by omega));have HW:=O hb12;have HE:=O (hE.keep hb12);have hr3:=hx3.1;rw [hs2,hs1] at hr3 hs3;have HR:=O hr3;have HSZ:=O hs3;obtain⟨pf,cf,rfl⟩:=hP.fs.shape;obtain⟨pe,ce,rfl⟩:=hP.es.shape;obtain⟨pva,cva,rfl⟩:=hT.a.shape;obtain⟨pvr,cvr,rfl⟩:=hT.r.shape;obtain⟨pvs,cvs,rfl⟩:=hT.s.shape;clear hx hx2 hx3 hs1 hs2 hs3 hr3 hb12 hT hP hnn hN h1w hE;subst hW1 hW2;unfold Zu at HCK HW HSZ HE HR ⊢;generalize (Oe (Jl r sp lk t0 t1 ag rs ss al sh by_) r (Yp sp lk t0 t1) p)=x at HCK ⊢;obtain⟨xe,xf,xb,xa⟩:=x;go_enter Tryz.func23,Tryz.ntmps23
 go_wp2_with fail
 generalize World.alloc (World.alloc (World.alloc w _) _) _=W at HCK HW HSZ HE HR ⊢;refine(J HCK).mono ?_;rintro e w2 ⟨v,rfl,he,hb⟩;have HER:=O (Zcp ((J HE).keep hb) he);have hz:=J HSZ;have HB:=O (Zc (J HW) hb (by omega));have HR2:=O ((hb.block (w.heap.size+1+1) (by omega)).trans (J HR));have hb2z:=hb.size;have HZ2:=O (show w.heap.size+1+1<w2.heap.size by omega);clear he hb hz hb2z;go_wp2_with fail
 refine(J HER).mono ?_;rintro e w3 ⟨rfl,hb3⟩;have HB3:=O (Zc (J HB) hb3 (J HB).size);have HR3:=O ((hb3.block (w.heap.size+1+1) (J HZ2)).trans (J HR2));clear hb3;unfold Rm;go_wp2_with (refine wpList_store_row rfl 29 (.tmp 4) (.tmp 8) rfl (w.heap.size+1+1) #[.int .i64 xe,.int .i64 xf,.int .i64 xb,.int .i64 xa] rfl rfl 29 _ (J HR3) (Tryz.infFltK.trans rfl) rfl (by simp [Value.oneCell']) ?_)
 refine bodyPost_ret (Gx (fn:=Tryz.f23) (q:=4) (uy:=29) rfl _ _ (w.heap.size+1+1) 29 #[.int .i64 xe,.int .i64 xf,.int .i64 xb,.int .i64 xa] (0,0) _ rfl (setRow_heap _ _ _ _ _ _ (J HR3)) Tryz.underlying29 rfl (Tryz.infFltK.trans rfl)) rfl ?_;exact⟨rfl,Zg (J HB3) (by omega)⟩
end Go.Proofs.YtkenknfgeoecbaaGreatDoor
namespace Go.Proofs.YtkenknfgeoecbaaGreatDoor
open Go.ChangeShapes Go.WideShapes Go.ChangeAt Go.RowKit Go.Deep
set_option maxRecDepth 100000
theorem Se {H:Type}{P:Program}{e:TypeId}{d:DataW H}{x:Nat}:∀{l:List (DataW H)},d ∈ l->x ∈ d.weights P e->x ∈ DataW.weightsAll P e l
 | a :: r,hd,hx=>by
  rw [DataW.weightsAll];rcases List.mem_cons.1 hd with rfl | h
  ·exact List.mem_append.2 (Or.inl hx)
  ·exact List.mem_append.2 (Or.inr (Se h hx))
theorem LS.congr {size:Nat}{w:World}{v:Value}{n:Nat}{A B:Nat->Array Value}(h:LS size w v n A)(e:∀ i,i<n->A i=B i):LS size w v n B:=by obtain⟨p,cap,h1,h2,h3,h4⟩:=h;refine⟨p,cap,h1,h2,h3,fun h0=>?_⟩;obtain⟨sb,so,e1,hl,hc⟩:=h4 h0;exact⟨sb,so,e1,hl,fun i hi=>by rw [← e i hi]; exact hc i hi⟩
section
variable {H:Type} {enc:TypeId×Value->H} {w:World} {held:Bool}
abbrev Df (t:TypeId)(d:DataW H):Prop:=∀ x ∈ d.weights Tryz.prog t,x<=reachBytes
theorem Lz {t e:TypeId}{α:Type}[Inhabited α]{size b:Nat}{One:Array Value×α->Prop}(ht:Tryz.prog.underlying t=some (.slice e))(hc:Tryz.prog.cellsOf e=size)(hs:0<size)(hby:Tryz.prog.bytesOf e=b)
 (elem:∀ n cs y,cs.length=size->Uw enc w held n e cs y->Df e y.1->∃ x:α,One (cs.toArray,x))
 {n:Nat} {v:Value} {y:DataW H×List MemPlace} (h:Uw enc w held n t [v] y) (hw:Df t y.1) :
 ∃ ps:List (Array Value×α),LS size w v ps.length (fun k=>(ps.getD k (#[],default)).1)∧(∀ q ∈ ps,One q)∧ps.length*b<=reachBytes:=by
 rcases open_slice ht h with⟨h0,h1⟩ | ⟨a,len,cap,m,k,D,Pl,h0,-,hl,hm,hmm,h1,hx⟩
 ·simp at h0;subst h0 h1;exact⟨[],⟨none,0,rfl,Nat.le_refl _,by show 0<Xe; decide,fun h=>absurd h (Nat.lt_irrefl 0)⟩,fun q hq=>(by cases hq),(by simp)⟩
 ·simp at h0;subst h0 h1;simp at hmm;subst hmm;unfold Df at hw;simp only [DataW.weights,ht,List.length_map,List.length_range,hby] at hw;have hb0:=hw _ List.mem_cons_self;have each:∀ i,i<len->∃ q:Array Value×α,One q∧w.cells? 0 (a.add (i*size)) size=some q.1.toList:=by intro i hi;obtain⟨cs',g1,g2⟩:=hx i (by omega);rw [hc] at g1;obtain⟨-,hlen,-⟩:=World.cells?_some g1;obtain⟨x,g3⟩:=elem k cs' _ hlen g2 (fun z hz=>hw z (List.mem_cons.2 (Or.inr (List.mem_append.2 (Or.inl (Se (List.mem_map.2 ⟨i,List.mem_range.2 hi,rfl⟩) hz))))));exact⟨(cs'.toArray,x),g3,by simpa using g1⟩
  haveI:Inhabited (Array Value×α):=⟨(#[],default)⟩
  obtain⟨f,hf⟩:=choose_lt each;have hlenp:((List.range len).map f).length=len:=by simp
  refine⟨(List.range len).map f,?_,?_,?_⟩
  ·rw [hlenp];refine⟨_,_,rfl,hl,Zgt (by omega),fun hpos=>?_⟩;obtain⟨sb,so,spot⟩:=a;have g:=World.cells?_some (hf 0 hpos).2;have hcell:=g.2.2 0 hs;have hlt:0<(f 0).1.toList.length:=by rw [g.2.1]; exact hs
   have hsp:spot=none:=by rw [List.getElem?_eq_getElem hlt] at hcell;simpa [Addr.add] using World.cell?_spot hcell
   subst hsp;have hbk:sb<w.heap.size:=by rw [List.getElem?_eq_getElem hlt] at hcell;have:=World.block_lt_of_cell? w _ hcell;simpa [Addr.add] using this
   refine⟨sb,so,rfl,hbk,fun i hi=>?_⟩;have g:=World.cells?_some (hf i hi).2;have e1:(((List.range len).map f).getD i (#[],default)).1=(f i).1:=by simp [List.getD,hi]
   show w.rangeAt sb (so+i*size) (((List.range len).map f).getD i (#[],default)).1.toList;rw [e1];intro j x hx';have hj:j<size:=by have:=(List.getElem?_eq_some_iff.1 hx').1;rw [g.2.1] at this;exact this
   have:=g.2.2 j hj;rw [hx'] at this;rw [Go.WideShapes.add_plain,Go.WideShapes.add_plain] at this;exact this
  ·intro q hq;obtain⟨i,hi,rfl⟩:=List.mem_map.1 hq;exact(hf i (List.mem_range.1 hi)).1
  ·rw [hlenp];exact Nat.le_trans (Nat.mul_le_mul_right _ (Nat.le_add_right _ _)) hb0
theorem Ki {α β:Type}(ps:List (α×β))(a:α)(b:β)(k:Nat):(ps.map (·.2)).getD k b=(ps.getD k (a,b)).2:=by simp only [List.getD,List.getElem?_map];cases ps[k]? <;> rfl
theorem Na {α:Type}(ps:List α)(d:α)(k:Nat)(h:k<ps.length):ps.getD k d ∈ ps:=by simp [List.getD,h]
theorem Dy {n:Nat}{v:Value}{y:DataW H×List MemPlace}(h:Uw enc w held n 23 [v] y)(hw:Df 23 y.1):∃ ns:List Int,Li w v ns:=by
 obtain⟨ps,h1,h2,-⟩:=Lz (One:=fun q:Array Value×Int=>q.1=#[.int .i64 q.2]) Tryz.underlying23 Tryz.cellsIntE (by decide) rfl (fun n cs y hl hy _=>by
  match cs,hl with
  | [v],_=>obtain⟨x,rfl,hx⟩:=Ga hy;exact⟨x,rfl⟩) h hw
 have hl:(ps.map (·.2)).length=ps.length:=by simp
 obtain⟨p,cap,g1,g2,g3,g4⟩:=(h1.congr (B:=fun k=>#[.int .i64 ((ps.map (·.2)).getD k default)]) (fun i hi=>by rw [Ki ps #[]]; exact h2 _ (Na _ _ _ hi))).ones;exact⟨ps.map (·.2),p,cap,by rw [hl]; exact g1,by rw [hl]; exact g2,by rw [hl]; exact g3,fun h0=>by rw [hl] at h0 ⊢; exact g4 h0⟩
theorem Zbi {t e:TypeId}(ht:Tryz.prog.underlying t=some (.slice e))(hc:Tryz.prog.cellsOf e=2)(hby:Tryz.prog.bytesOf e=16)
 (elem:∀ n cs y,cs.length=2->Uw enc w held n e cs y->∃ x:Int×Int,cs.toArray=#[.int .i64 x.1,.int .i64 x.2])
 {n:Nat} {v:Value} {y:DataW H×List MemPlace} (h:Uw enc w held n t [v] y) (hw:Df t y.1):∃ xs:List (Int×Int),LS 2 w v xs.length (fun k=>La (xs.getD k (0,0)))∧xs.length*16<=reachBytes:=by
 obtain⟨ps,h1,h2,h3⟩:=Lz (One:=fun q:Array Value×(Int×Int)=>q.1=La q.2) ht hc (by decide) hby (fun n cs y hl hy _=>by
  obtain⟨x,hx⟩:=elem n cs y hl hy;exact⟨x,hx⟩) h hw
 have hl:(ps.map (·.2)).length=ps.length:=by simp
 refine⟨ps.map (·.2),?_,by rw [hl]; exact h3⟩;rw [hl];exact h1.congr (fun i hi=>by rw [Ki ps #[]]; exact h2 _ (Na _ _ _ hi))
theorem Zlg {n:Nat}{v:Value}{y:DataW H×List MemPlace}(h:Uw enc w held n 108 [v] y)(hw:Df 108 y.1):∃ xs:List (Int×Int),LS 2 w v xs.length (fun k=>La (xs.getD k (0,0)))∧xs.length*16<=reachBytes :=
 Zbi Tryz.underlying108 Tryz.cellsArgE (by kernel_rfl) (fun n cs y hl hy=>by
  obtain⟨x,⟨hx,-⟩,-⟩:=Zfm Tryz.underlying372 rfl rfl rfl rfl rfl hl hy;exact⟨x,hx⟩) h hw
theorem Zgl {n:Nat}{v:Value}{y:DataW H×List MemPlace}(h:Uw enc w held n 68 [v] y)(hw:Df 68 y.1):∃ xs:List (Int×Int),LS 2 w v xs.length (fun k=>La (xs.getD k (0,0)))∧xs.length*16<=reachBytes :=
 Zbi Tryz.underlying68 Tryz.cellsParamE (by kernel_rfl) (fun n cs y hl hy=>by
  obtain⟨x,⟨hx,-⟩,-⟩:=Zfm Tryz.underlying107 rfl rfl rfl rfl rfl hl hy;exact⟨x,hx⟩) h hw
def Zfh (i:Yb):Prop:=0<=i.n∧i.n<18446744073709551616
theorem Zpy {n:Nat}{cs:List Value}{y:DataW H×List MemPlace}(hl:cs.length=8)(h:Uw enc w held n 110 cs y)(hw:Df 110 y.1):∃ i:Yb,Zle w cs.toArray i∧Zfh i:=by obtain⟨c0,c1,c2,c3,c4,c5,c6,c7,rfl⟩:=Ztv hl;obtain⟨xs,k,-,hx,-,hxl,hall⟩:=DataW.trod_struct Tryz.underlying110 h;obtain⟨y0,y1,y2,y3,y4,y5,y6,y7,rfl⟩:=Ztv hxl;have f0:Uw enc w held k 3 [c0] y0:=Yx hall (i:=0) rfl Tryz.cellsIntE rfl;have f1:Uw enc w held k 3 [c1] y1:=Yx hall (i:=1) rfl Tryz.cellsIntE rfl;have f2:Uw enc w held k 3 [c2] y2:=Yx hall (i:=2) rfl Tryz.cellsIntE rfl;have f3:Uw enc w held k 3 [c3] y3:=Yx hall (i:=3) rfl Tryz.cellsIntE rfl;have f4:Uw enc w held k 90 [c4] y4:=Yx hall (i:=4) rfl Tryz.cellsU64E rfl;have f5:Uw enc w held k 3 [c5] y5:=Yx hall (i:=5) rfl Tryz.cellsIntE rfl;have f6:Uw enc w held k 108 [c6] y6:=Yx hall (i:=6) rfl Tryz.cellsArgsE rfl;have f7:Uw enc w held k 23 [c7] y7:=Yx hall (i:=7) rfl Tryz.cellsIntsE rfl;clear hall;rw [show y.1=_ from congrArg Prod.fst hx] at hw;unfold Df at hw;simp only [DataW.weights,Tryz.underlying110,List.map_cons,List.map_nil,DataW.weightsEach,List.mem_append] at hw;obtain⟨x0,rfl,b0⟩:=Ga f0;obtain⟨x1,rfl,b1⟩:=Ga f1;obtain⟨x2,rfl,b2⟩:=Ga f2;obtain⟨x3,rfl,b3⟩:=Ga f3;obtain⟨x4,rfl,b4⟩:=Zqr f4;obtain⟨x5,rfl,b5⟩:=Ga f5;obtain⟨gs,l6,-⟩:=Zlg f6 (fun z hz=>hw z (by first | exact Or.inl hz | simp only [hz,true_or,or_true]));obtain⟨os,l7⟩:=Dy f7 (fun z hz=>hw z (by first | exact Or.inl hz | simp only [hz,true_or,or_true]));exact⟨⟨x0,x1,x2,x3,x4,x5,gs,os⟩,⟨c6,c7,rfl,l6,l7⟩,b4⟩
theorem Zih {n:Nat}{cs:List Value}{y:DataW H×List MemPlace}(hl:cs.length=1)(h:Uw enc w held n 111 cs y)(hw:Df 111 y.1) :
 ∃ l:List Yb,∃ v,cs=[v]∧Zaj w v l∧∀ i ∈ l,Zfh i:=by
 match cs,hl with
 | [v],_ =>
  haveI:Inhabited Yb:=⟨⟨0,0,0,0,0,0,[],[]⟩⟩
  obtain⟨ps,h1,h2,-⟩:=Lz (One:=fun q:Array Value×Yb=>Zle w q.1 q.2∧Zfh q.2) Tryz.underlying111 Tryz.cellsInsE (by decide) rfl (fun n cs y hl hy hw=>Zpy hl hy hw) h hw;have hl:(ps.map (·.2)).length=ps.length:=by simp
  refine⟨ps.map (·.2),v,rfl,⟨_,by rw [hl]; exact h1,fun k hk=>?_⟩,fun i hi=>?_⟩
  ·rw [hl] at hk;have e1:(ps.getD k (#[],default))=ps[k]:=by simp [List.getD,hk]
   rw [e1,List.getElem_map];exact(h2 _ (List.getElem_mem hk)).1
  ·obtain⟨q,hq,rfl⟩:=List.mem_map.1 hi;exact(h2 q hq).2
theorem Zgm {n:Nat}{v:Value}{y:DataW H×List MemPlace}(h:Uw enc w held n 69 [v] y)(hw:Df 69 y.1) :
 ∃(bl:List (List Yb)) (B:Nat->Value),LS 1 w v bl.length (fun k=>#[B k])∧(∀ k (hk:k<bl.length),Zaj w (B k) bl[k])∧∀ l ∈ bl,∀ i ∈ l,Zfh i:=by
 obtain⟨ps,h1,h2,-⟩:=Lz (One:=fun q:Array Value×List Yb=>∃ v,q.1=#[v]∧Zaj w v q.2∧∀ i ∈ q.2,Zfh i) Tryz.underlying69 Tryz.cellsInssE (by decide) rfl (fun n cs y hl hy hw=>by
  obtain⟨l,v,rfl,g⟩:=Zih hl hy hw;exact⟨l,v,rfl,g⟩) h hw
 have hl:(ps.map (·.2)).length=ps.length:=by simp
 refine⟨ps.map (·.2),fun k=>((ps.getD k (#[],default)).1).getD 0 undef,?_,fun k hk=>?_,fun l hl i hi=>?_⟩
 ·rw [hl];refine h1.congr (fun i hi=>?_);obtain⟨v',e,-⟩:=h2 _ (Na ps (#[],default) i hi);show(ps.getD i (#[],default)).1=#[((ps.getD i (#[],default)).1).getD 0 undef];rw [e];rfl
 ·rw [hl] at hk;have e1:(ps.getD k (#[],default))=ps[k]:=by simp [List.getD,hk]
  obtain⟨v',e,g,-⟩:=h2 _ (List.getElem_mem hk);show Zaj w (((ps.getD k (#[],default)).1).getD 0 undef) (ps.map (·.2))[k];rw [e1,List.getElem_map,e];exact g
 ·obtain⟨q,hq,rfl⟩:=List.mem_map.1 hl;obtain⟨v',-,-,g⟩:=h2 q hq;exact g i hi
theorem Zpz {n:Nat}{cs:List Value}{y:DataW H×List MemPlace}(hl:cs.length=2)(h:Uw enc w held n 43 cs y)(hw:Df 43 y.1):∃ s:List Int×Int,Zlf w cs.toArray s:=by obtain⟨c0,c1,rfl⟩:=Zan hl;obtain⟨xs,k,-,hx,-,hxl,hall⟩:=DataW.trod_struct Tryz.underlying43 h;obtain⟨y0,y1,rfl⟩:=Zan hxl;have f0:Uw enc w held k 23 [c0] y0:=Yx hall (i:=0) rfl Tryz.cellsIntsE rfl;have f1:Uw enc w held k 3 [c1] y1:=Yx hall (i:=1) rfl Tryz.cellsIntE rfl;clear hall;rw [show y.1=_ from congrArg Prod.fst hx] at hw;unfold Df at hw;simp only [DataW.weights,Tryz.underlying43,List.map_cons,List.map_nil,DataW.weightsEach,List.mem_append] at hw;obtain⟨ns,l0⟩:=Dy f0 (fun z hz=>hw z (by first | exact Or.inl hz | simp only [hz,true_or,or_true]));obtain⟨x1,rfl,b1⟩:=Ga f1;exact⟨(ns,x1),c0,rfl,l0⟩
def Zsu (f:Zj):Prop:=(∀ l ∈ f.blocks,∀ i ∈ l,Zfh i)∧f.params.length*16<=reachBytes
theorem Zlh {n:Nat}{cs:List Value}{y:DataW H×List MemPlace}(hl:cs.length=5)(h:Uw enc w held n 71 cs y)(hw:Df 71 y.1):∃ f:Zj,Sd w cs.toArray f∧Zsu f:=by obtain⟨c0,c1,c2,c3,c4,rfl⟩:=Ztu hl;obtain⟨xs,k,-,hx,-,hxl,hall⟩:=DataW.trod_struct Tryz.underlying71 h;obtain⟨y0,y1,y2,y3,y4,rfl⟩:=Ztu hxl;have f0:Uw enc w held k 68 [c0] y0:=Yx hall (i:=0) rfl Tryz.cellsParamsE rfl;have f1:Uw enc w held k 3 [c1] y1:=Yx hall (i:=1) rfl Tryz.cellsIntE rfl;have f2:Uw enc w held k 23 [c2] y2:=Yx hall (i:=2) rfl Tryz.cellsIntsE rfl;have f3:Uw enc w held k 23 [c3] y3:=Yx hall (i:=3) rfl Tryz.cellsIntsE rfl;have f4:Uw enc w held k 69 [c4] y4:=Yx hall (i:=4) rfl Tryz.cellsBlocksE rfl;clear hall;rw [show y.1=_ from congrArg Prod.fst hx] at hw;unfold Df at hw;simp only [DataW.weights,Tryz.underlying71,List.map_cons,List.map_nil,DataW.weightsEach,List.mem_append] at hw;obtain⟨pp,l0,m0⟩:=Zgl f0 (fun z hz=>hw z (by first | exact Or.inl hz | simp only [hz,true_or,or_true]));obtain⟨x1,rfl,b1⟩:=Ga f1;obtain⟨hs,l2⟩:=Dy f2 (fun z hz=>hw z (by first | exact Or.inl hz | simp only [hz,true_or,or_true]));obtain⟨ss,l3⟩:=Dy f3 (fun z hz=>hw z (by first | exact Or.inl hz | simp only [hz,true_or,or_true]));obtain⟨bl,B,l4,l5,v4⟩:=Zgm f4 (fun z hz=>hw z (by first | exact Or.inl hz | simp only [hz,true_or,or_true]));exact⟨⟨pp,x1,hs,ss,bl⟩,⟨c0,c2,c3,c4,B,rfl,⟨l0,l2,l3,l4,l5⟩⟩,v4,m0⟩
theorem Zli {b0:Nat}{r:Reach}{v:Value}{d:DataW H}{p:List MemPlace}(hv:Value.okWide Tryz.prog w r b0 62 v)(h:DataW.Trod enc Tryz.prog w 0 (fun _=>true) held 62 v d p)(hw:Df 62 d) :
 ∃(fv ev:Value) (P:Zk) (A E:Nat->Array Value),v=.agg #[fv,ev]∧Mo w fv ev P A E∧Zpx P∧∀ k,(P.funcs.getD k Zh).params.length<=8796093022208:=by
 obtain⟨cs,rfl,hsz⟩:=okWide_struct Tryz.underlying62 hv;obtain⟨l⟩:=cs;obtain⟨c0,c1,rfl⟩:=Zan (l:=l) (hsz.trans (by kernel_rfl));obtain⟨fuel,hf⟩:=h;obtain⟨xs,k,-,hx,-,hxl,hall⟩:=DataW.trod_struct Tryz.underlying62 hf;obtain⟨y0,y1,rfl⟩:=Zan hxl;have f0:Uw enc w held k 59 [c0] y0:=Yx hall (i:=0) rfl Tryz.cellsFuncsE rfl;have f1:Uw enc w held k 60 [c1] y1:=Yx hall (i:=1) rfl Tryz.cellsSigsE rfl;clear hall;rw [show d=_ from congrArg Prod.fst hx] at hw;unfold Df at hw;simp only [DataW.weights,Tryz.underlying62,List.map_cons,List.map_nil,DataW.weightsEach,List.mem_append] at hw;haveI:Inhabited Zj:=⟨Zh⟩
 obtain⟨pf,l0,v0,-⟩:=Lz (One:=fun q:Array Value×Zj=>Sd w q.1 q.2∧Zsu q.2) Tryz.underlying59 Tryz.cellsFuncE (by decide) rfl (fun n cs y hl hy hw=>Zlh hl hy hw) f0 (fun z hz=>hw z (by first | exact Or.inl hz | simp only [hz,true_or,or_true]));obtain⟨pe,l1,v1,-⟩:=Lz (One:=fun q:Array Value×(List Int×Int)=>Zlf w q.1 q.2) Tryz.underlying60 Tryz.cellsSigE (by decide) rfl (fun n cs y hl hy hw=>Zpz hl hy hw) f1 (fun z hz=>hw z (by first | exact Or.inl hz | simp only [hz,true_or,or_true]));have hl0:(pf.map (·.2)).length=pf.length:=by simp
 have hl1:(pe.map (·.2)).length=pe.length:=by simp
 have hfw:∀ k,Zsu ((pf.map (·.2)).getD k Zh):=fun k=>by
  by_cases hk:k<pf.length
  ·rw [Ki pf #[]];exact(v0 _ (Na _ _ _ hk)).2
  ·rw [show(pf.map (·.2)).getD k Zh=Zh by simp [List.getD,Nat.le_of_not_lt hk]];exact⟨fun l hl=>(by cases hl),by simp [Zh]⟩
 refine⟨c0,c1,⟨pf.map (·.2),pe.map (·.2)⟩,_,_,rfl,⟨by rw [hl0]; exact l0,fun k hk=>?_,by rw [hl1]; exact l1,fun k hk=>?_⟩,fun k i j=>?_,fun k=>?_⟩
 ·have hk':k<pf.length:=by rw [← hl0]; exact hk
  have e1:(pf.getD k (#[],default))=pf[k]:=by simp [List.getD,hk']
  show Sd w (pf.getD k (#[],default)).1 (pf.map (·.2))[k];rw [e1,List.getElem_map];exact(v0 _ (List.getElem_mem hk')).1
 ·have hk':k<pe.length:=by rw [← hl1]; exact hk
  have e1:(pe.getD k (#[],default))=pe[k]:=by simp [List.getD,hk']
  show Zlf w (pe.getD k (#[],default)).1 (pe.map (·.2))[k];rw [e1,List.getElem_map];exact v1 _ (List.getElem_mem hk')
 ·have h:=(hfw k).1;show 0<=((((pf.map (·.2)).getD k Zh).blocks.getD i []).getD j Jo).n∧((((pf.map (·.2)).getD k Zh).blocks.getD i []).getD j Jo).n<18446744073709551616;generalize (pf.map (·.2)).getD k Zh=f at h;by_cases hi:i<f.blocks.length
  ·by_cases hj:j<(f.blocks.getD i []).length
   ·exact h _ (Na _ _ _ hi) _ (Na _ _ _ hj)
   ·rw [show(f.blocks.getD i []).getD j Jo=Jo by generalize f.blocks.getD i []=l at hj ⊢; simp [List.getD,Nat.le_of_not_lt hj]];exact⟨by decide,by decide⟩
  ·rw [show f.blocks.getD i []=[] by simp [List.getD,Nat.le_of_not_lt hi]];exact⟨Int.le_refl 0,by show(0:Int)<_; decide⟩
 ·have h:=(hfw k).2;unfold reachBytes at h;show((pf.map (·.2)).getD k Zh).params.length<=8796093022208;omega
end
end Go.Proofs.YtkenknfgeoecbaaGreatDoor
