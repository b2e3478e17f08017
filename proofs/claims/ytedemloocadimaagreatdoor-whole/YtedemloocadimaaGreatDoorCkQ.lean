import Derived.Test.YtedemloocadimaaGreatDoorJ24
import Derived.Test.YtedemloocadimaaGreatDoorJ28
namespace Go.Proofs.YtedemloocadimaaGreatDoor
open Go.RowKit
set_option maxHeartbeats 8000000
set_option maxRecDepth 100000
def Ur (w:World)(v:Value)(x:Zel):Prop:=(v=.nilIface∧x=⟨0,-1,-1,-1⟩)∨(∃ n,n≠0∧v=.iface 111 (.int .i64 n)∧x=⟨n,-1,-1,-1⟩)∨∃ q,x.e≠0∧v=.iface 114 (.pointer (some ⟨q,0,none⟩))∧Mq w q x.e x.f x.b x.a
structure Zlr (w:World)(va vr vs:Value)(ag rs ss:List Int):Prop where
 a:Rs w va ag
 r:Rs w vr rs
 s:Rs w vs ss
 ca:∀ a n cap,va=.slice a n cap→n≤cap
 cr:∀ a n cap,vr=.slice a n cap→n≤cap
 cs:∀ a n cap,vs=.slice a n cap→n≤cap
theorem Zlr.below {w w':World}{va vr vs:Value}{ag rs ss:List Int}(h:Zlr w va vr vs ag rs ss)(hb:Below w.heap.size w w'):Zlr w' va vr vs ag rs ss:=⟨h.a.below hb,h.r.below hb,h.s.below hb,h.ca,h.cr,h.cs⟩
theorem Zqn {r sp lk t0 t1:Int}{ag rs ss:List Int}{al sh by_:Int}(h:Lq r sp lk t0 t1 ag rs ss al sh by_=true):4≤r∧r≤16:=by
 unfold Lq Zfw at h;simp at h;omega
theorem Zyq {r:Int}{own:List Int}{p:Zw}(hc:Ld p=true)(hh:∀ k,k<p.funcs.length→Jr r own (p.funcs.getD k Zp)=true)(k:Nat)(hk:k<p.funcs.length):Zts p (p.funcs.getD k Zp):=by
 have key:∀ j,j<p.funcs.length→(p.funcs.getD j Zp).params.length≤8∧(p.funcs.getD j Zp).results≤4∧Ob (p.funcs.getD j Zp).slots 1 8=true:=fun j hj=>by
  have h:=hh j hj;unfold Jr at h;simp only [Bool.and_eq_true,decide_eq_true_eq] at h;obtain⟨h1,h2,h3,h4,h5,h6,-⟩:=h;unfold Rn Gm at h2;simp only [Bool.and_eq_true,decide_eq_true_eq] at h2;exact⟨h1,h2.2.1.2,h6⟩
 refine⟨(key k hk).2.2,fun j hj=>⟨(key j hj).1,(key j hj).2.1⟩,fun j hj=>?_⟩;unfold Ld at hc;simp only [Bool.and_eq_true,decide_eq_true_eq] at hc;have h:=Nd hc.2.2 hj;unfold Rn Gm at h;simp only [Bool.and_eq_true,decide_eq_true_eq] at h;exact h.2.1.2
theorem Zqo {p:Zw}{f:Zy}(h:De p f=true):Ml p f=(-1,-1):=by
 unfold Ml;rw [Ug (fun q hq=>Nd h hq)]
theorem Zqp {p:Zw}{f:Zy}(h:De p f=false):0≤(Ml p f).1:=by
 unfold Ml;cases hf:Nk f.blocks.length (Zie p f) with
 | some k=>simp
 | none =>
  exfalso
  have:De p f=true:=Md fun k hk=>by
   unfold Nk at hf;rw [List.find?_eq_none] at hf;have:=hf k (List.mem_range.2 hk);simpa using this
  rw [this] at h;cases h
def Zif (p:Zw):Prop:=∀ k,Yfm (p.funcs.getD k Zp)
theorem Zig (r sp lk t0 t1:Int)(va vr vs:Value)(al sh by_:Int)(pr:Bool)(ag rs ss:List Int)(p:Zw)(fv ev:Value)(A E:Nat→Array Value)(w:World)(hT:Zlr w va vr vs ag rs ss)(hP:Ov w fv ev p A E)(hnn:Zif p)(hN:Zs w)(h1w:2<w.heap.size) :
 Calls Tryz.prog 41 #[.agg (Yt r sp lk t0 t1 va vr vs al sh by_ pr),.agg #[fv,ev]] w fun e w'=>∃ v,e=.returned v∧Ur w' v (Dw (Lq r sp lk t0 t1 ag rs ss al sh by_) r (Jg sp lk t0 t1) p)∧Below w.heap.size w w':=by
 have hx:=Gk w (.cells (Yt r sp lk t0 t1 va vr vs al sh by_ pr) 37 (0,0));generalize hW1:World.alloc w (.cells (Yt r sp lk t0 t1 va vr vs al sh by_ pr) 37 (0,0))=W1 at hx;have hx2:=Gk W1 (.cells #[fv,ev] 25 (0,0));have hs1:=hx.2.2;have hs2:=hx2.2.2;have hb12:=Zd hx.2.1 hx2.2.1 (by omega);have HT:=Za (hT.below hb12);have HP:=Za (hP.below hb12);have HNA:=Za (hN.keep hb12);have HW:=Za hb12;have HR1:=Za ((hx2.2.1.block w.heap.size (by omega)).trans hx.1);have hr2:=hx2.1;rw [hs1] at hr2 hs2;have HR2:=Za hr2;have HZ:=Za hs2;have HNN:=Za hnn;have H1W:=Za h1w;have hl4:p.funcs.length<9223372036854775808:=by obtain⟨_,_,_,_,h,_⟩:=hP.fs; exact h
 obtain⟨pf,cf,rfl⟩:=hP.fs.shape;obtain⟨pe,ce,rfl⟩:=hP.es.shape;obtain⟨pva,cva,rfl⟩:=hT.a.shape;obtain⟨pvr,cvr,rfl⟩:=hT.r.shape;obtain⟨pvs,cvs,rfl⟩:=hT.s.shape;clear hx hx2 hs1 hs2 hb12 hr2 hT hP hnn hN h1w;subst hW1;unfold Yt at HR1 ⊢;go_enter Tryz.func41,Tryz.ntmps41
 go_wp2_with fail
 unfold Yt at HW HT HP HNA HR2 HZ;generalize World.alloc (World.alloc w _) _=W at HT HP HNA HW HR1 HR2 HZ ⊢;refine(Zpr r sp lk t0 t1 _ _ _ al sh by_ pr ag rs ss W (J HT).a (J HT).r (J HT).s (J HT).ca (J HT).cr (J HT).cs).mono ?_;rintro e w2 ⟨rfl,hb⟩;have HB2:=Za hb;have hz:=J HZ;have hrp:=(hb.block (w.heap.size+1) (by omega)).trans (J HR2);have p0:=(cR hrp 0);have p1:=(cR hrp 1);clear hb hrp hz;cases htb:Lq r sp lk t0 t1 ag rs ss al sh by_ with
 | false =>
  have hc:=Za (show Dw (Lq r sp lk t0 t1 ag rs ss al sh by_) r (Jg sp lk t0 t1) p=⟨2,-1,-1,-1⟩ by rw [htb]; rfl);clear htb;unfold Zwv;go_wp2;go_ret;exact⟨_,rfl,by rw [J hc]; exact Or.inr (Or.inl ⟨2,by decide,rfl,rfl⟩),Zd (J HW) (J HB2) (by have:=J HZ; omega)⟩
 | true =>
  have HR:=Za (Zqn htb);have HTB:=Za htb;clear htb;unfold Zwv;go_wp2_with fail
  refine(Zid p _ _ A E w2 ((J HP).below (J HB2))).mono ?_;rintro e w3 ⟨rfl,hb⟩;have HB3:=Za (Zd (J HB2) hb (J HB2).size);have hz:=J HZ;have hrp:=((J HB3).block (w.heap.size+1) (by omega)).trans (J HR2);clear p0 p1;have p0:=(cR hrp 0);have p1:=(cR hrp 1);clear hb hrp hz;cases hcb:Ld p with
  | false =>
   have hc:=Za (show Dw (Lq r sp lk t0 t1 ag rs ss al sh by_) r (Jg sp lk t0 t1) p=⟨5,-1,-1,-1⟩ by rw [J HTB]; unfold Dw; rw [hcb]; rfl);clear hcb;go_wp2;go_ret;exact⟨_,rfl,by rw [J hc]; exact Or.inr (Or.inl ⟨5,by decide,rfl,rfl⟩),Zd (J HW) (J HB3) (by have:=J HZ; omega)⟩
  | true =>
   have HCB:=Za hcb;clear hcb;go_wp2_with fail
   go_loopw [22] (fun j w'=>∃ k:Nat,j=.int .i64 k∧k≤p.funcs.length∧Below W.heap.size W w'∧∀ q,q<k→Jr r (Jg sp lk t0 t1) (p.funcs.getD q Zp)=true) (fun j _=>p.funcs.length-(intOf j).toNat)
   case atStart=>exact⟨0,rfl,by omega,J HB3,fun q hq=>by omega⟩
   case round =>
    obtain⟨k,rfl,hk,hbw,hno⟩:=hrel;have HNO:=Za hno;clear hno p0 p1;by_cases hk2:k<p.funcs.length
    ·
     obtain⟨p',cap',he,-,hcc⟩:=(J HP).fs.fives;injection he with e1 e2 e3;subst e1 e3;obtain⟨sb,so,rfl,hslt,hcel⟩:=hcc (by omega);have hfc:=(J HP).feach k hk2;have hgd:p.funcs[k]=p.funcs.getD k Zp:=by simp [List.getD,hk2]
     rw [hgd] at hfc;have HBAD:=Za (fun hb:Jr r (Jg sp lk t0 t1) (p.funcs.getD k Zp)=false=>show Dw (Lq r sp lk t0 t1 ag rs ss al sh by_) r (Jg sp lk t0 t1) p=⟨5,k,-1,-1⟩ by rw [J HTB]; unfold Dw; rw [J HCB,Ra (ok:=fun k=>Jr r (Jg sp lk t0 t1) (p.funcs.getD k Zp)) (J HNO) hk2 hb]; rfl);have HNX:=Za (fun hb:Jr r (Jg sp lk t0 t1) (p.funcs.getD k Zp)=true=>Gi (q:=fun q=>Jr r (Jg sp lk t0 t1) (p.funcs.getD q Zp)) (J HNO) hb);generalize p.funcs.getD k Zp=f at hfc HBAD HNX;obtain⟨gv,hv,sv,bv,B,hA,hfd⟩:=hfc;have HFD:=Za hfd;obtain⟨gp,gc,rfl⟩:=hfd.ps.shape;obtain⟨hp,hc,rfl⟩:=hfd.hs.shape;obtain⟨xp,xc,rfl⟩:=hfd.ss.shape;obtain⟨yp,yc,rfl⟩:=hfd.bs.shape;have hck:=hcel k hk2;rw [hA] at hck;have k0:=(hbw.cell hslt).trans (hck 0 _ rfl);have k1:=(hbw.cell hslt).trans (hck 1 _ rfl);have k2:=(hbw.cell hslt).trans (hck 2 _ rfl);have k3:=(hbw.cell hslt).trans (hck 3 _ rfl);have k4:=(hbw.cell hslt).trans (hck 4 _ rfl);rw [Nat.add_zero] at k0;have hsU:sb<wr.heap.size:=Nat.lt_of_lt_of_le hslt hbw.size;have hz:=J HZ;have hrB:=(hbw.block w.heap.size (by omega)).trans (J HR1);have hrP:=(hbw.block (w.heap.size+1) (by omega)).trans (J HR2);have hws:=hbw.size;have HK:=Za (fun(V:World) (h:Below wr.heap.size wr V)=>show Below wr.heap.size wr V∧V.cell? ⟨w.heap.size,0,none⟩=some (.int .i64 r)∧V.cell? ⟨w.heap.size,1,none⟩=some (.int .i64 sp)∧V.cell? ⟨w.heap.size,2,none⟩=some (.int .i64 lk)∧V.cell? ⟨w.heap.size,3,none⟩=some (.int .i64 t0)∧V.cell? ⟨w.heap.size,4,none⟩=some (.int .i64 t1)∧V.cell? ⟨w.heap.size,5,none⟩=some (.slice pva ag.length cva)∧V.cell? ⟨w.heap.size,6,none⟩=some (.slice pvr rs.length cvr)∧V.cell? ⟨w.heap.size,7,none⟩=some (.slice pvs ss.length cvs)∧V.cell? ⟨w.heap.size,8,none⟩=some (.int .i64 al)∧V.cell? ⟨w.heap.size,9,none⟩=some (.int .i64 sh)∧V.cell? ⟨w.heap.size,10,none⟩=some (.int .i64 by_)∧V.cell? ⟨w.heap.size,11,none⟩=some (.bool pr)∧V.cell? ⟨w.heap.size+1,0,none⟩=some (.slice (some ⟨sb,so,none⟩) p.funcs.length cf)∧V.cell? ⟨w.heap.size+1,1,none⟩=some (.slice pe p.externs.length ce)∧V.cell? ⟨sb,so+k*5,none⟩=some (.slice gp f.params.length gc)∧V.cell? ⟨sb,so+k*5+1,none⟩=some (.int .i64 f.results)∧V.cell? ⟨sb,so+k*5+2,none⟩=some (.slice hp f.homes.length hc)∧V.cell? ⟨sb,so+k*5+3,none⟩=some (.slice xp f.slots.length xc)∧V.cell? ⟨sb,so+k*5+4,none⟩=some (.slice yp f.blocks.length yc) from⟨h,(cR ((h.block w.heap.size (by omega)).trans hrB) 0),(cR ((h.block w.heap.size (by omega)).trans hrB) 1),(cR ((h.block w.heap.size (by omega)).trans hrB) 2),(cR ((h.block w.heap.size (by omega)).trans hrB) 3),(cR ((h.block w.heap.size (by omega)).trans hrB) 4),(cR ((h.block w.heap.size (by omega)).trans hrB) 5),(cR ((h.block w.heap.size (by omega)).trans hrB) 6),(cR ((h.block w.heap.size (by omega)).trans hrB) 7),(cR ((h.block w.heap.size (by omega)).trans hrB) 8),(cR ((h.block w.heap.size (by omega)).trans hrB) 9),(cR ((h.block w.heap.size (by omega)).trans hrB) 10),(cR ((h.block w.heap.size (by omega)).trans hrB) 11),(cR ((h.block (w.heap.size+1) (by omega)).trans hrP) 0),(cR ((h.block (w.heap.size+1) (by omega)).trans hrP) 1),(h.cell hsU).trans k0,(h.cell hsU).trans k1,(h.cell hsU).trans k2,(h.cell hsU).trans k3,(h.cell hsU).trans k4⟩)
     have HK0:=Za (J HK wr.drew (Below.refl wr.heap.size wr).drew);have HBW:=Za hbw;have HWD:=Za (Zd hbw (Below.refl wr.heap.size wr).drew hws);have HHF:=Za (Zln r sp lk t0 t1 (.slice pva ag.length cva) (.slice pvr rs.length cvr) (.slice pvs ss.length cvs) al sh by_ pr f (.slice gp f.params.length gc) (.slice hp f.homes.length hc) (.slice xp f.slots.length xc) (.slice yp f.blocks.length yc) B wr.drew (J HR) ((J HFD).below (J HWD)));unfold Yt at HHF;clear hfd hck hcc hcel hA hgd hbw e2 hz hrB hrP k0 k1 k2 k3 k4;go_wp2_with fail
     refine wp_region_held_drew (S:=fun V=>Below wr.heap.size wr V∧V.cell? ⟨w.heap.size,0,none⟩=some (.int .i64 r)∧V.cell? ⟨w.heap.size,1,none⟩=some (.int .i64 sp)∧V.cell? ⟨w.heap.size,2,none⟩=some (.int .i64 lk)∧V.cell? ⟨w.heap.size,3,none⟩=some (.int .i64 t0)∧V.cell? ⟨w.heap.size,4,none⟩=some (.int .i64 t1)∧V.cell? ⟨w.heap.size,5,none⟩=some (.slice pva ag.length cva)∧V.cell? ⟨w.heap.size,6,none⟩=some (.slice pvr rs.length cvr)∧V.cell? ⟨w.heap.size,7,none⟩=some (.slice pvs ss.length cvs)∧V.cell? ⟨w.heap.size,8,none⟩=some (.int .i64 al)∧V.cell? ⟨w.heap.size,9,none⟩=some (.int .i64 sh)∧V.cell? ⟨w.heap.size,10,none⟩=some (.int .i64 by_)∧V.cell? ⟨w.heap.size,11,none⟩=some (.bool pr)∧V.cell? ⟨w.heap.size+1,0,none⟩=some (.slice (some ⟨sb,so,none⟩) p.funcs.length cf)∧V.cell? ⟨w.heap.size+1,1,none⟩=some (.slice pe p.externs.length ce)∧V.cell? ⟨sb,so+k*5,none⟩=some (.slice gp f.params.length gc)∧V.cell? ⟨sb,so+k*5+1,none⟩=some (.int .i64 f.results)∧V.cell? ⟨sb,so+k*5+2,none⟩=some (.slice hp f.homes.length hc)∧V.cell? ⟨sb,so+k*5+3,none⟩=some (.slice xp f.slots.length xc)∧V.cell? ⟨sb,so+k*5+4,none⟩=some (.slice yp f.blocks.length yc)) (by kernel_rfl) (J HK0) (fun hHeld=>?_);refine tT 0 ?_;refine tT 1 ?_;refine tT 2 ?_;refine tT 3 ?_;refine tT 4 ?_;refine tT 5 ?_;refine tO 6 fun K hK=>?_;go_simp;refine(J HHF).mono ?_;rintro e w5 ⟨rfl,hb5⟩
     have HB5:=Za (Zd (Below.refl wr.heap.size wr).drew hb5 (Nat.le_refl _));have HB6:=Za (Zd (J HWD) hb5 (by have:=(J HWD).size; omega));clear hb5;go_wp2_with fail
     refine kO hK (J HK _ (J HB5)) (fun hHeld2=>?_);clear hK K;refine tT 7 ?_;refine wpAnyH_done (by kernel_rfl) ?_ _;have hz:=J HZ;cases hhb:Jr r (Jg sp lk t0 t1) f with
     | false =>
      have hz2:=Za (J HBAD hhb);clear hhb;go_wp2_with fail
      refine(Zok k (-1) (-1) w5).mono ?_;rintro e w6 ⟨rfl,h6⟩;subst w6;have hy:=Gk w5 (.cells #[.iface 111 (.int .i64 5),.int .i64 k,.int .i64 (-1),.int .i64 (-1)] 117 (0,0));have HY:=Za hy;clear hy;go_wp2;go_ret;refine⟨_,rfl,?_,Zd (Zd (J HW) (J HB6) (by omega)) (J HY).2.1 (by have:=(J HW).size; have:=(J HB6).size; omega)⟩;rw [J hz2];exact Or.inr (Or.inr ⟨_,(show(5:Int)≠0 by decide),rfl,⟨(cR (J HY).1 0),(cR (J HY).1 1),(cR (J HY).1 2),(cR (J HY).1 3)⟩⟩)
     | true =>
      have hz2:=Za (J HNX hhb);clear hhb;go_wp2;go_roundw
      case rel=>exact⟨k+1,by go_num,by omega,J HB6,J hz2⟩
      case measure=>simp [intOf]; omega
    ·
     have HHD:=Za (show ∀ q,q<p.funcs.length→Jr r (Jg sp lk t0 t1) (p.funcs.getD q Zp)=true from fun q hq=>J HNO q (by omega));obtain rfl:k=p.funcs.length:=by omega
     have HBW:=Za hbw;have hz:=J HZ;have hrp:=(hbw.block (w.heap.size+1) (by omega)).trans (J HR2);have p0:=(cR hrp 0);clear hbw hrp hz HNO;go_wp2_with fail
     generalize hwr:wr=V0 at HBW ⊢;clear hwr p0;go_loopw [39] (fun j w'=>∃ k:Nat,j=.int .i64 k∧k≤p.funcs.length∧Below W.heap.size W w'∧∀ q,q<k→De p (p.funcs.getD q Zp)=true) (fun j _=>p.funcs.length-(intOf j).toNat)
     case atStart=>exact⟨0,rfl,by omega,J HBW,fun q hq=>by omega⟩
     case round =>
      obtain⟨k,rfl,hk,hbw,hno⟩:=hrel;have HNO:=Za hno;clear hno;by_cases hk2:k<p.funcs.length
      ·
       obtain⟨p',cap',he,-,hcc⟩:=(J HP).fs.fives;injection he with e1 e2 e3;subst e1 e3;obtain⟨sb,so,rfl,hslt,hcel⟩:=hcc (by omega);have hfc:=(J HP).feach k hk2;have hgd:p.funcs[k]=p.funcs.getD k Zp:=by simp [List.getD,hk2]
       rw [hgd] at hfc;have HCH:=Za (show Dw (Lq r sp lk t0 t1 ag rs ss al sh by_) r (Jg sp lk t0 t1) p=match Nk p.funcs.length (fun k=>De p (p.funcs.getD k Zp)) with | some k=>⟨5,k,(Ml p (p.funcs.getD k Zp)).1,(Ml p (p.funcs.getD k Zp)).2⟩ | none=>⟨0,-1,-1,-1⟩ by rw [J HTB]; unfold Dw; rw [J HCB,Ug (ok:=fun k=>Jr r (Jg sp lk t0 t1) (p.funcs.getD k Zp)) (J HHD)]; rfl);have HBAD:=Za (fun hb:De p (p.funcs.getD k Zp)=false=>show Dw (Lq r sp lk t0 t1 ag rs ss al sh by_) r (Jg sp lk t0 t1) p=⟨5,k,(Ml p (p.funcs.getD k Zp)).1,(Ml p (p.funcs.getD k Zp)).2⟩ by rw [J HCH,Ra (ok:=fun k=>De p (p.funcs.getD k Zp)) (J HNO) hk2 hb]);have HNX:=Za (fun hb:De p (p.funcs.getD k Zp)=true=>Gi (q:=fun q=>De p (p.funcs.getD q Zp)) (J HNO) hb);have HFIT:=Za (Zyq (J HCB) (J HHD) k hk2);have HNF:=Za ((J HNN) k);generalize p.funcs.getD k Zp=f at hfc HBAD HNX HFIT HNF;obtain⟨gv,hv,sv,bv,B,hA,hfd⟩:=hfc;have HFD:=Za hfd;obtain⟨gp,gc,rfl⟩:=hfd.ps.shape;obtain⟨hp,hc,rfl⟩:=hfd.hs.shape;obtain⟨xp,xc,rfl⟩:=hfd.ss.shape;obtain⟨yp,yc,rfl⟩:=hfd.bs.shape;have hck:=hcel k hk2;rw [hA] at hck;have k0:=(hbw.cell hslt).trans (hck 0 _ rfl);have k1:=(hbw.cell hslt).trans (hck 1 _ rfl);have k2:=(hbw.cell hslt).trans (hck 2 _ rfl);have k3:=(hbw.cell hslt).trans (hck 3 _ rfl);have k4:=(hbw.cell hslt).trans (hck 4 _ rfl);rw [Nat.add_zero] at k0;have hsU:sb<wr.heap.size:=Nat.lt_of_lt_of_le hslt hbw.size;have hz:=J HZ;have hrB:=(hbw.block w.heap.size (by omega)).trans (J HR1)
       have hrP:=(hbw.block (w.heap.size+1) (by omega)).trans (J HR2);have hws:=hbw.size;have HK:=Za (fun(V:World) (h:Below wr.heap.size wr V)=>show Below wr.heap.size wr V∧V.cell? ⟨w.heap.size+1,0,none⟩=some (.slice (some ⟨sb,so,none⟩) p.funcs.length cf)∧V.cell? ⟨w.heap.size+1,1,none⟩=some (.slice pe p.externs.length ce)∧V.cell? ⟨sb,so+k*5,none⟩=some (.slice gp f.params.length gc)∧V.cell? ⟨sb,so+k*5+1,none⟩=some (.int .i64 f.results)∧V.cell? ⟨sb,so+k*5+2,none⟩=some (.slice hp f.homes.length hc)∧V.cell? ⟨sb,so+k*5+3,none⟩=some (.slice xp f.slots.length xc)∧V.cell? ⟨sb,so+k*5+4,none⟩=some (.slice yp f.blocks.length yc) from⟨h,(cR ((h.block (w.heap.size+1) (by omega)).trans hrP) 0),(cR ((h.block (w.heap.size+1) (by omega)).trans hrP) 1),(h.cell hsU).trans k0,(h.cell hsU).trans k1,(h.cell hsU).trans k2,(h.cell hsU).trans k3,(h.cell hsU).trans k4⟩);have HK0:=Za (J HK wr.drew (Below.refl wr.heap.size wr).drew);have HBW2:=Za hbw;have HWD:=Za (Zd hbw (Below.refl wr.heap.size wr).drew hws);have HHF:=Za (Zge p f (.slice (some ⟨sb,so,none⟩) p.funcs.length cf) (.slice pe p.externs.length ce) (.slice gp f.params.length gc) (.slice hp f.homes.length hc) (.slice xp f.slots.length xc) (.slice yp f.blocks.length yc) A E B wr.drew ⟨(J HP).below (J HWD),(J HFD).below (J HWD)⟩ (J HFIT) (J HNF) ((J HNA).keep (J HWD)) (by have h1:=J H1W; have h2:=(J HW).size; have h3:=(J HWD).size; omega))
       clear hfd hck hcc hcel hA hgd hbw e2 hz hrB hrP k0 k1 k2 k3 k4;generalize hwx:Ml p f=wx at HHF HBAD;obtain⟨wb,wa⟩:=wx;have HWX:=Za hwx;clear hwx;simp only at HHF HBAD;go_wp2_with fail
       refine wp_region_held_drew (S:=fun V=>Below wr.heap.size wr V∧V.cell? ⟨w.heap.size+1,0,none⟩=some (.slice (some ⟨sb,so,none⟩) p.funcs.length cf)∧V.cell? ⟨w.heap.size+1,1,none⟩=some (.slice pe p.externs.length ce)∧V.cell? ⟨sb,so+k*5,none⟩=some (.slice gp f.params.length gc)∧V.cell? ⟨sb,so+k*5+1,none⟩=some (.int .i64 f.results)∧V.cell? ⟨sb,so+k*5+2,none⟩=some (.slice hp f.homes.length hc)∧V.cell? ⟨sb,so+k*5+3,none⟩=some (.slice xp f.slots.length xc)∧V.cell? ⟨sb,so+k*5+4,none⟩=some (.slice yp f.blocks.length yc)) (by kernel_rfl) (J HK0) (fun hHeld=>?_);refine tT 0 ?_;refine tT 1 ?_;refine tT 2 ?_;refine tT 3 ?_;refine tT 4 ?_;refine tT 5 ?_;refine tO 6 fun K hK=>?_;go_simp;refine(J HHF).mono ?_;rintro e w5 ⟨rfl,hb5⟩;have HB5:=Za (Zd (Below.refl wr.heap.size wr).drew hb5 (Nat.le_refl _));have HB6:=Za (Zd (J HWD) hb5 (by have:=(J HWD).size; omega));clear hb5;go_wp2_with fail
       refine kO hK (J HK _ (J HB5)) (fun hHeld2=>?_);clear hK K;refine tT 7 ?_;refine tT 8 ?_;refine tT 9 ?_;refine tT 10 ?_;refine tT 11 ?_;refine wpAnyH_done (by kernel_rfl) ?_ _;have hz:=J HZ;cases hhb:De p f with
       | false =>
        have hz2:=Za (J HBAD hhb);have hwb:0≤wb:=by have:=Zqp hhb; rw [J HWX] at this; exact this
        clear hhb;go_wp2_with fail
        refine(Zok k wb wa w5).mono ?_;rintro e w6 ⟨rfl,h6⟩;subst w6;have hy:=Gk w5 (.cells #[.iface 111 (.int .i64 5),.int .i64 k,.int .i64 wb,.int .i64 wa] 117 (0,0));have HY:=Za hy;clear hy;go_wp2;go_ret;refine⟨_,rfl,?_,Zd (Zd (J HW) (J HB6) (by omega)) (J HY).2.1 (by have:=(J HW).size; have:=(J HB6).size; omega)⟩;rw [J hz2];exact Or.inr (Or.inr ⟨_,(show(5:Int)≠0 by decide),rfl,⟨(cR (J HY).1 0),(cR (J HY).1 1),(cR (J HY).1 2),(cR (J HY).1 3)⟩⟩)
       | true =>
        have hz2:=Za (J HNX hhb);obtain⟨rfl,rfl⟩:wb=-1∧wa=-1:=by have:=Zqo hhb; rw [J HWX] at this; injection this with a b; exact⟨a,b⟩
        clear hhb;go_wp2;go_roundw
        case rel=>exact⟨k+1,by go_num,by omega,J HB6,J hz2⟩
        case measure=>simp [intOf]; omega
      ·
       have hz2:=Za (show Dw (Lq r sp lk t0 t1 ag rs ss al sh by_) r (Jg sp lk t0 t1) p=⟨0,-1,-1,-1⟩ by rw [J HTB]; unfold Dw; rw [J HCB,Ug (ok:=fun k=>Jr r (Jg sp lk t0 t1) (p.funcs.getD k Zp)) (J HHD),Ug (ok:=fun k=>De p (p.funcs.getD k Zp)) (fun q hq=>J HNO q (by omega))]; rfl);obtain rfl:k=p.funcs.length:=by omega
       have HBW3:=Za hbw;clear hbw;go_wp2;go_ret;exact⟨_,rfl,by rw [J hz2]; exact Or.inl ⟨rfl,rfl⟩,Zd (J HW) (J HBW3) (by have:=J HZ; omega)⟩
end Go.Proofs.YtedemloocadimaaGreatDoor
