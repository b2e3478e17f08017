import Derived.Test.YtkenknfgeoecbaaGreatDoorJ18
import Derived.Test.YtkenknfgeoecbaaGreatDoorJ12
namespace Go.Proofs.YtkenknfgeoecbaaGreatDoor
open Go.RowKit
set_option maxHeartbeats 4000000
set_option maxRecDepth 100000
theorem Zpq (f:Zm)(a b c:Int):Mt f [a,b,c]=(Jp f a&&(Jp f b&&Jp f c)):=by simp [Mt,upB,List.range,List.range.loop]
structure ScD (w:World)(p:Zj)(f:Zm)(fv ev pv hv sv bv:Value)(A E:Nat->Array Value)(B:Nat->Value):Prop where
 prog:Mk w fv ev p A E
 func:Kq w f pv hv sv bv B
theorem ScD.below {w w':World}{p:Zj}{f:Zm}{fv ev pv hv sv bv:Value}{A E:Nat->Array Value}{B:Nat->Value}(h:ScD w p f fv ev pv hv sv bv A E B)(hb:Below w.heap.size w w'):ScD w' p f fv ev pv hv sv bv A E B:=⟨h.prog.below hb,h.func.below hb⟩
structure Zsh (p:Zj)(f:Zm):Prop where
 slots:Gg f.slots 1 8=true
 funcs:∀ k,k<p.funcs.length->(p.funcs.getD k Zk).params.length<=8∧(p.funcs.getD k Zk).results<=4
 externs:∀ k,k<p.externs.length->(p.externs.getD k ([],0)).2<=4
theorem Li.list {w:World}(ns:List Int)(hs:ns.length<Jw):Li (w.alloc (.cells (ns.map fun n=>Value.int .i64 n).toArray 3 (0,0))) (.slice (some ⟨w.heap.size,0,none⟩) ns.length ns.length) ns:=Li.new (heap_alloc_new w _) hs
abbrev FfS (op:Int):Prop:=∀(p:Zj) (f:Zm) (d a bb n fx:Int) (gs:List (Int×Int)) (os:List Int) (fv ev pv hv sv bv av ov:Value) (A E:Nat->Array Value) (B:Nat->Value) (w:World),ScD w p f fv ev pv hv sv bv A E B->LS 2 w av gs.length (fun k=>Nq (gs.getD k (0,0)))->Li w ov os->Zsh p f->0<=n∧n<18446744073709551616->Calls Tryz.prog 200 #[.agg #[fv,ev,pv,.int .i64 f.results,hv,sv,bv],.agg #[.int .i64 op,.int .i64 d,.int .i64 a,.int .i64 bb,.int .u64 n,.int .i64 fx,av,ov]] w fun e w'=>e=.returned (.bool (Xq p f ⟨op,d,a,bb,n,fx,gs,os⟩))∧Below w.heap.size w w'
theorem Yax {p:Zj}{f:Zm}{gs:List (Int×Int)}{os:List Int}{fv ev pv hv sv bv av ov:Value}{A E:Nat->Array Value}{B:Nat->Value}{w:World}(op d a bb n fx:Int)(hSC:ScD w p f fv ev pv hv sv bv A E B)(ha:LS 2 w av gs.length (fun k=>Nq (gs.getD k (0,0))))(ho:Li w ov os)(W:World)(hW:W=(w.alloc (.cells #[fv,ev,pv,.int .i64 f.results,hv,sv,bv] 272 (0,0))).alloc (.cells #[.int .i64 op,.int .i64 d,.int .i64 a,.int .i64 bb,.int .u64 n,.int .i64 fx,av,ov] 110 (0,0))) :
 ∃ pf cf pe ce pp cp ph ch ps cs pb cb pa ca po co,fv=.slice pf p.funcs.length cf∧ev=.slice pe p.externs.length ce∧pv=.slice pp f.params.length cp∧hv=.slice ph f.homes.length ch∧sv=.slice ps f.slots.length cs∧bv=.slice pb f.blocks.length cb∧av=.slice pa gs.length ca∧ov=.slice po os.length co∧(f.homes.length<9223372036854775808∧f.slots.length<9223372036854775808∧f.blocks.length<9223372036854775808∧p.funcs.length<9223372036854775808∧p.externs.length<9223372036854775808∧os.length<9223372036854775808)∧Hid (ScD W p f fv ev pv hv sv bv A E B)∧Hid (LS 2 W av gs.length (fun k=>Nq (gs.getD k (0,0))))∧Hid (Li W ov os)∧Hid (Below w.heap.size w W)∧Hid (W.heap[w.heap.size]?=some (.cells #[fv,ev,pv,.int .i64 f.results,hv,sv,bv] 272 (0,0)))∧Hid (W.heap[w.heap.size+1]?=some (.cells #[.int .i64 op,.int .i64 d,.int .i64 a,.int .i64 bb,.int .u64 n,.int .i64 fx,av,ov] 110 (0,0)))∧Hid (W.heap.size=w.heap.size+1+1):=by
 have hx:=al0 w (.cells #[fv,ev,pv,.int .i64 f.results,hv,sv,bv] 272 (0,0));generalize hW1:World.alloc w (.cells #[fv,ev,pv,.int .i64 f.results,hv,sv,bv] 272 (0,0))=W1 at hx hW;have hx2:=al0 W1 (.cells #[.int .i64 op,.int .i64 d,.int .i64 a,.int .i64 bb,.int .u64 n,.int .i64 fx,av,ov] 110 (0,0));rw [← hW] at hx2;have hs1:=hx.2.2;have hs2:=hx2.2.2;have hb12:=Zd hx.2.1 hx2.2.1 (by omega);have hr2:=hx2.1;rw [hs1] at hr2 hs2;obtain⟨pf,cf,e1⟩:=hSC.prog.fs.shape;obtain⟨pe,ce,e2⟩:=hSC.prog.es.shape;obtain⟨pp,cp,e3⟩:=hSC.func.ps.shape;obtain⟨ph,ch,e4⟩:=hSC.func.hs.shape;obtain⟨ps,cs,e5⟩:=hSC.func.ss.shape;obtain⟨pb,cb,e6⟩:=hSC.func.bs.shape;obtain⟨pa,ca,e7⟩:=ha.shape;obtain⟨po,co,e8⟩:=ho.shape;exact⟨pf,cf,pe,ce,pp,cp,ph,ch,ps,cs,pb,cb,pa,ca,po,co,e1,e2,e3,e4,e5,e6,e7,e8,⟨hSC.func.hs.lt,hSC.func.ss.lt,by obtain⟨_,_,_,_,h,_⟩:=hSC.func.bs; exact h,by obtain⟨_,_,_,_,h,_⟩:=hSC.prog.fs; exact h,by obtain⟨_,_,_,_,h,_⟩:=hSC.prog.es; exact h,ho.lt⟩,Za (hSC.below hb12),Za (ha.below hb12),Za (ho.below hb12),Za hb12,Za ((hx2.2.1.block w.heap.size (by omega)).trans hx.1),Za hr2,Za hs2⟩
theorem Yed:FfS 3:=by
 intro p f d a bb n fx gs os fv ev pv hv sv bv av ov A E B w hSC ha ho hF hn;obtain⟨pf,cf,pe,ce,pp,cp,ph,ch,ps,cs,pb,cb,pa,ca,po,co,rfl,rfl,rfl,rfl,rfl,rfl,rfl,rfl,⟨hl1,hl2,hl3,hl4,hl5,hl6⟩,HSC,HA,HO,HW,HR1,HR2,HZ⟩:=Yax 3 d a bb n fx hSC ha ho _ rfl;have HF:=Za hF;have HNN:=Za hn;clear hSC ha ho hF hn;go_enter Tryz.func200,Tryz.ntmps200
 go_wp2_with fail
 generalize World.alloc (World.alloc w _) _=W at HSC HA HO HW HR1 HR2 HZ ⊢;have hT:=J HZ;rw [← hT];refine(Kp f _ _ _ _ _ _ _ _ [d,a,bb] _ ⟨_,_,rfl⟩ hl1 (Li.list (w:=W) [d,a,bb] (by show 3<Jw; decide))).mono ?_;rintro e w2 ⟨rfl,hb⟩;have HB2:=Za (Zd (al0 W _).2.1 hb (by simp));clear hb hT;rw [Zpq];have hx:=Za (show Xq p f ⟨3,d,a,bb,n,fx,gs,os⟩=(Jp f d&&(Jp f a&&Jp f bb)) by rfl);go_wp2;go_ret;exact⟨by rw [J hx]; rfl,Zd (J HW) (J HB2) (by have:=J HZ; omega)⟩
theorem Ybk:FfS 16:=by
 intro p f d a bb n fx gs os fv ev pv hv sv bv av ov A E B w hSC ha ho hF hn;obtain⟨pf,cf,pe,ce,pp,cp,ph,ch,ps,cs,pb,cb,pa,ca,po,co,rfl,rfl,rfl,rfl,rfl,rfl,rfl,rfl,⟨hl1,hl2,hl3,hl4,hl5,hl6⟩,HSC,HA,HO,HW,HR1,HR2,HZ⟩:=Yax 16 d a bb n fx hSC ha ho _ rfl;have HF:=Za hF;have HNN:=Za hn;clear hSC ha ho hF hn;go_enter Tryz.func200,Tryz.ntmps200
 by_cases h1:(os.length:Int)=f.results
 ·have z1:((os.length:Int)==f.results)=true:=by simpa using h1
  go_wp2_with fail
  generalize World.alloc (World.alloc w _) _=W at HSC HA HO HW HR1 HR2 HZ ⊢;refine(Kp f _ _ _ _ _ _ _ _ os W ⟨_,_,rfl⟩ hl1 (J HO)).mono ?_;rintro e w2 ⟨rfl,hb⟩;have HB2:=Za hb;clear hb;have hx:=Za (show Xq p f ⟨16,d,a,bb,n,fx,gs,os⟩=Mt f os by unfold Xq; simp [h1]);go_wp2;go_ret;exact⟨by rw [J hx]; rfl,Zd (J HW) (J HB2) (by have:=J HZ; omega)⟩
 ·have z1:((os.length:Int)==f.results)=false:=by simpa using h1
  have hx:=Za (show Xq p f ⟨16,d,a,bb,n,fx,gs,os⟩=false by unfold Xq; simp [h1]);clear h1;go_wp2;go_ret;exact⟨by rw [J hx]; rfl,J HW⟩
set_option maxHeartbeats 4000000
set_option maxRecDepth 100000
theorem Zhn (p:Zj)(f:Zm)(i:Yj)(fv ev pv hv sv bv av ov:Value)(A E:Nat->Array Value)(B:Nat->Value)(w:World)(h1:1<=i.op)(h18:i.op<=18)(hSC:ScD w p f fv ev pv hv sv bv A E B)(ha:LS 2 w av i.args.length (fun k=>Nq (i.args.getD k (0,0))))(ho:Li w ov i.outs)(hF:Zsh p f)(hn:(0<=i.n∧i.n<18446744073709551616)∧(i.op=3∨i.op=16∨i.op=0)) :
 Calls Tryz.prog 200 #[.agg #[fv,ev,pv,.int .i64 f.results,hv,sv,bv],.agg #[.int .i64 i.op,.int .i64 i.d,.int .i64 i.a,.int .i64 i.bb,.int .u64 i.n,.int .i64 i.f,av,ov]] w fun e w'=>e=.returned (.bool (Xq p f i))∧Below w.heap.size w w':=by
 obtain⟨op,d,a,bb,n,fx,gs,os⟩:=i;simp only at h1 h18 ha ho hn ⊢;have hs:op=3∨op=16:=by omega
 rcases hs with rfl | rfl
 ·exact Yed p f d a bb n fx gs os fv ev pv hv sv bv av ov A E B w hSC ha ho hF hn.1
 ·exact Ybk p f d a bb n fx gs os fv ev pv hv sv bv av ov A E B w hSC ha ho hF hn.1
theorem Ybl (op:Int)(w:World):Calls Tryz.prog 198 #[.int .i64 op] w fun e w'=>e=.returned (.bool (Gn op 14 18))∧w'=w:=by
 unfold Gn;by_cases h1:14<=op
 ·by_cases h2:op<=18
  ·have hd:decide (14<=op∧op<=18)=true:=by simp; omega
   rw [hd];clear hd;go_enter Tryz.func198,Tryz.ntmps198
   go_wp2;go_ret;exact⟨rfl,rfl⟩
  ·have hd:decide (14<=op∧op<=18)=false:=by simp; omega
   rw [hd];clear hd;go_enter Tryz.func198,Tryz.ntmps198
   go_wp2;go_ret;exact⟨rfl,rfl⟩
 ·have hd:decide (14<=op∧op<=18)=false:=by simp; omega
  rw [hd];clear hd;go_enter Tryz.func198,Tryz.ntmps198
  go_wp2;go_ret;exact⟨rfl,rfl⟩
theorem Zsi (op:Int)(w:World)(hg:Zo w)(h:¬ (1<=op∧op<=18)):Calls Tryz.prog 197 #[.int .i64 op] w fun e w'=>e=.returned (.int .u8 0)∧w'=w:=by
 by_cases h0:op<0
 ·clear h;go_enter Tryz.func197,Tryz.ntmps197
  go_wp2;go_ret;exact⟨rfl,rfl⟩
 ·by_cases h19:19<=op
  ·clear h;go_enter Tryz.func197,Tryz.ntmps197
   go_wp2;go_ret;exact⟨rfl,rfl⟩
  ·obtain rfl:op=0:=by omega
   have c0:=(hg 0 (by decide)).trans rfl;clear h h0 h19 hg;go_enter Tryz.func197,Tryz.ntmps197
   go_wp2;go_ret;exact⟨rfl,rfl⟩
theorem Zwz (op:Int)(h1:1<=op)(h2:op<=18):((Nh op) != 0)=true:=by
 have hs:op=1∨op=2∨op=3∨op=4∨op=5∨op=6∨op=7∨op=8∨op=9∨op=10∨op=11∨op=12∨op=13∨op=14∨op=15∨op=16∨op=17∨op=18:=by omega
 rcases hs with rfl | rfl | rfl | rfl | rfl | rfl | rfl | rfl | rfl | rfl | rfl | rfl | rfl | rfl | rfl | rfl | rfl | rfl <;> rfl
theorem Zo.keep {w w':World}(h:Zo w)(hb:Below w.heap.size w w'):Zo w':=fun k hk=>(hb.cell (World.block_lt_of_cell? w _ (h k hk))).trans (h k hk)
theorem Ybm (p:Zj)(f:Zm)(i:Yj)(last:Bool)(fv ev pv hv sv bv av ov:Value)(A E:Nat->Array Value)(B:Nat->Value)(w:World)(hSC:ScD w p f fv ev pv hv sv bv A E B)(ha:LS 2 w av i.args.length (fun k=>Nq (i.args.getD k (0,0))))(ho:Li w ov i.outs)(hF:Zsh p f)(hn:(0<=i.n∧i.n<18446744073709551616)∧(i.op=3∨i.op=16∨i.op=0))(hN:Zo w)(h1w:2<w.heap.size) :
 Calls Tryz.prog 132 #[.agg #[fv,ev,pv,.int .i64 f.results,hv,sv,bv],.agg #[.int .i64 i.op,.int .i64 i.d,.int .i64 i.a,.int .i64 i.bb,.int .u64 i.n,.int .i64 i.f,av,ov],.bool last] w fun e w'=>e=.returned (.bool (Zat p f i last))∧Below w.heap.size w w':=by
 have hx:=al0 w (.cells #[fv,ev,pv,.int .i64 f.results,hv,sv,bv] 272 (0,0));generalize hW1:World.alloc w (.cells #[fv,ev,pv,.int .i64 f.results,hv,sv,bv] 272 (0,0))=W1 at hx;have hx2:=al0 W1 (.cells #[.int .i64 i.op,.int .i64 i.d,.int .i64 i.a,.int .i64 i.bb,.int .u64 i.n,.int .i64 i.f,av,ov] 110 (0,0));have hs1:=hx.2.2;have hs2:=hx2.2.2;have hb12:=Zd hx.2.1 hx2.2.1 (by omega);have HSC:=Za (hSC.below hb12);have HA:=Za (ha.below hb12);have HO:=Za (ho.below hb12);have HNA:=Za (hN.keep hb12);have HW:=Za hb12;have HR1:=Za ((hx2.2.1.block w.heap.size (by omega)).trans hx.1);have hr2:=hx2.1;rw [hs1] at hr2 hs2;have HR2:=Za hr2;have HZ:=Za hs2;have HF:=Za hF;have HNN:=Za hn;obtain⟨pf,cf,rfl⟩:=hSC.prog.fs.shape;obtain⟨pe,ce,rfl⟩:=hSC.prog.es.shape;obtain⟨pp,cp,rfl⟩:=hSC.func.ps.shape;obtain⟨ph,ch,rfl⟩:=hSC.func.hs.shape;obtain⟨ps,cs,rfl⟩:=hSC.func.ss.shape;obtain⟨pb,cb,rfl⟩:=hSC.func.bs.shape;obtain⟨pa,ca,rfl⟩:=ha.shape;obtain⟨po,co,rfl⟩:=ho.shape;have H1W:=Za h1w;clear hx hx2 hs1 hs2 hb12 hr2 hSC ha ho hF hn hN h1w;subst hW1;go_enter Tryz.func132,Tryz.ntmps132
 go_wp2_with fail
 generalize World.alloc (World.alloc w _) _=W at HSC HA HO HNA HW HR1 HR2 HZ ⊢;obtain⟨i0,i1,i2,i3,i4,i5,i6,i7⟩:=cT8 (J HR2);by_cases hop:1<=i.op∧i.op<=18
 ·refine(Ui i.op hop.1 hop.2 W (J HNA)).mono ?_;rintro e w2 ⟨rfl,h2⟩;subst w2;have zn:=Zwz i.op hop.1 hop.2;generalize Nh i.op=nd at zn ⊢;have HOP:=Za hop;clear hop;go_wp2_with fail
  refine(Ybl i.op W).mono ?_;rintro e w2 ⟨rfl,h2⟩;subst w2;have HI:=Za (show Zat p f i last=((Gn i.op 14 18==last)&&(!i.spare&&Xq p f i)) by have hop:=J HOP;unfold Zat Gn;have e1:decide (1<=i.op∧i.op<=18)=true:=decide_eq_true hop;have e2:decide (14<=i.op∧i.op<=18)=decide (14<=i.op):=decide_eq_decide.2 ⟨fun h=>h.1,fun h=>⟨h,hop.2⟩⟩;rw [e1,e2,Bool.true_and])
  generalize Gn i.op 14 18=en at HI ⊢;by_cases hel:en=last
  ·subst hel;have ze:(en==en)=true:=by simp
   go_wp2_with fail
   refine(Kk i.op i.d i.a i.bb i.n i.f pa po i.args.length i.outs.length ca co W (J HOP).1 (J HOP).2 (J HNA) (World.block_lt_of_cell? W _ (J HNA 0 (by decide)))).mono ?_;rintro e w2 ⟨rfl,hb⟩;have HB2:=Za hb;clear hb i0 i1 i2 i3 i4 i5 i6 i7;have hz:=J HZ;have hrs:=((J HB2).block w.heap.size (by omega)).trans (J HR1);have hri:=((J HB2).block (w.heap.size+1) (by omega)).trans (J HR2);obtain⟨s0,s1,s2,s3,s4,s5,s6⟩:=cT7 hrs;obtain⟨i0,i1,i2,i3,i4,i5,i6,i7⟩:=cT8 hri;clear hz hrs hri;cases hsp:i.spare with
   | true=>have hx:=Za (show Zat p f i en=false by rw [J HI,hsp]; simp);have hsp':Dp i.op i.d i.a i.bb i.n i.f i.args.length i.outs.length=true:=hsp;rw [hsp'];clear hsp hsp';go_wp2;go_ret;exact⟨by rw [J hx]; rfl,Zd (J HW) (J HB2) (by have:=J HZ; omega)⟩
   | false =>
    have HX:=Za (show Zat p f i en=Xq p f i by rw [J HI,hsp]; simp);have hsp':Dp i.op i.d i.a i.bb i.n i.f i.args.length i.outs.length=false:=hsp;rw [hsp'];clear hsp hsp';go_wp2_with fail
    refine(Zhn p f i _ _ _ _ _ _ _ _ A E B w2 (J HOP).1 (J HOP).2 ((J HSC).below (J HB2)) ((J HA).below (J HB2)) ((J HO).below (J HB2)) (J HF) (J HNN)).mono ?_;rintro e w3 ⟨rfl,hb⟩;have HB3:=Za (Zd (J HB2) hb (J HB2).size);clear hb;go_wp2;go_ret;exact⟨by rw [J HX]; rfl,Zd (J HW) (J HB3) (by have:=J HZ; omega)⟩
  ·have ze:(en==last)=false:=by simpa using hel
   have hx:=Za (show Zat p f i last=false by rw [J HI,ze]; rfl);clear hel;go_wp2;go_ret;exact⟨by rw [J hx]; rfl,J HW⟩
 ·refine(Zsi i.op W (J HNA) hop).mono ?_;rintro e w2 ⟨rfl,h2⟩;subst w2;have hx:=Za (show Zat p f i last=false by unfold Zat Gn; rw [decide_eq_false hop]; rfl);clear hop;go_wp2;go_ret;exact⟨by rw [J hx]; rfl,J HW⟩
set_option maxHeartbeats 8000000
set_option maxRecDepth 100000
def Yee (f:Zm):Prop:=∀ k j,(0<=((f.blocks.getD k []).getD j Lc).n∧((f.blocks.getD k []).getD j Lc).n<18446744073709551616)∧(((f.blocks.getD k []).getD j Lc).op=3∨((f.blocks.getD k []).getD j Lc).op=16∨((f.blocks.getD k []).getD j Lc).op=0)
theorem LS.eights {w:World}{v:Value}{n:Nat}{A:Nat->Array Value}(h:LS 8 w v n A):∃ p cap,v=.slice p n cap∧n<9223372036854775808∧(0<n->∃ sb so,p=some ⟨sb,so,none⟩∧sb<w.heap.size∧∀ k,k<n->∀ j x,(A k)[j]?=some x->w.cell? ⟨sb,so+k*8+j,none⟩=some x):=by obtain⟨p,cap,h1,h2,h3,h4⟩:=h;refine⟨p,cap,h1,h3,fun h0=>?_⟩;obtain⟨sb,so,e,hl,hc⟩:=h4 h0;exact⟨sb,so,e,hl,fun k hk j x hx=>hc k hk j x (by simpa using hx)⟩
theorem Zfm (p:Zj)(f:Zm)(fv ev pv hv sv bv:Value)(A E:Nat->Array Value)(B:Nat->Value)(w:World)(hSC:ScD w p f fv ev pv hv sv bv A E B)(hF:Zsh p f)(hnn:Yee f)(hN:Zo w)(h1w:2<w.heap.size) :
 Calls Tryz.prog 91 #[.agg #[fv,ev],.agg #[pv,.int .i64 f.results,hv,sv,bv]] w fun e w'=>e=.returned (.tuple #[.int .i64 (Gh p f).1,.int .i64 (Gh p f).2])∧Below w.heap.size w w':=by
 have hx:=al0 w (.cells #[fv,ev] 62 (0,0));generalize hW1:World.alloc w (.cells #[fv,ev] 62 (0,0))=W1 at hx;have hx2:=al0 W1 (.cells #[pv,.int .i64 f.results,hv,sv,bv] 71 (0,0));generalize hW2:World.alloc W1 (.cells #[pv,.int .i64 f.results,hv,sv,bv] 71 (0,0))=W2 at hx2;have hx3:=al0 W2 (.cells #[fv,ev,pv,.int .i64 f.results,hv,sv,bv] 272 (0,0));have hs1:=hx.2.2;have hs2:=hx2.2.2;have hs3:=hx3.2.2;have hb12:=Zd hx.2.1 hx2.2.1 (by omega);have hb13:=Zd hb12 hx3.2.1 (by omega);have HSC:=Za (hSC.below hb13);have HNA:=Za (hN.keep hb13);have HW:=Za hb13;have hr3:=hx3.1;rw [hs2,hs1] at hr3 hs3;have HR3:=Za hr3;have HZ:=Za hs3;have HF:=Za hF;have HNN:=Za hnn;have H1W:=Za h1w;have hl3:f.blocks.length<9223372036854775808:=by obtain⟨_,_,_,_,h,_⟩:=hSC.func.bs; exact h
 obtain⟨pf,cf,rfl⟩:=hSC.prog.fs.shape;obtain⟨pe,ce,rfl⟩:=hSC.prog.es.shape;obtain⟨pp,cp,rfl⟩:=hSC.func.ps.shape;obtain⟨ph,ch,rfl⟩:=hSC.func.hs.shape;obtain⟨ps,cs,rfl⟩:=hSC.func.ss.shape;obtain⟨pb,cb,rfl⟩:=hSC.func.bs.shape;clear hx hx2 hx3 hs1 hs2 hs3 hb12 hb13 hr3 hSC hF hnn hN h1w;subst hW1 hW2;go_enter Tryz.func91,Tryz.ntmps91
 go_wp2_with fail
 generalize World.alloc (World.alloc (World.alloc w _) _) _=W at HSC HNA HW HR3 HZ ⊢;go_loopw [17] (fun j w'=>∃ k:Nat,j=.int .i64 k∧k<=f.blocks.length∧Below W.heap.size W w'∧∀ q,q<k->Zhp p f q=true) (fun j _=>f.blocks.length-(intOf j).toNat)
 case atStart=>exact⟨0,rfl,by omega,Below.refl _ _,fun q hq=>by omega⟩
 case round =>
  obtain⟨k,rfl,hk,hbw,hno⟩:=hrel;have HNO:=Za hno;clear hno;by_cases hk2:k<f.blocks.length
  ·obtain⟨p',cap',he,-,-,hcc⟩:=(J HSC).func.bs.ones;injection he with e1 e2 e3;subst e1 e3;obtain⟨sb,so,rfl,hc⟩:=hcc (by omega);have c0:=(hbw.cell (World.block_lt_of_cell? W _ (hc k hk2))).trans (hc k hk2);have hblk:=(J HSC).func.each k hk2;have hgd:f.blocks[k]=f.blocks.getD k []:=by simp [List.getD,hk2]
   rw [hgd] at hblk;have HOK:=Za (fun j=>show Zky p f k j=Zat p f ((f.blocks.getD k []).getD j Lc) (decide (j+1=(f.blocks.getD k []).length)) from rfl);have HBB:=Za (show Zhp p f k=upB (f.blocks.getD k []).length (Zky p f k) from rfl);have HNJ:=Za ((J HNN) k);have HWR:=Za (fun(hb:Zhp p f k=false)=>show Gh p f=((k:Int),(((La (f.blocks.getD k []).length (Zky p f k)).getD 0:Nat):Int)) by unfold Gh; rw [Uc (J HNO) hk2 hb]);generalize f.blocks.getD k []=bl at hblk HOK HBB HNJ HWR;obtain⟨Ai,hls,hins⟩:=hblk;obtain⟨pl,cl,hBk,hll,hlc⟩:=hls.eights;rw [hBk] at c0;have HLC:=Za hlc;have HINS:=Za hins;have HBW:=Za hbw;clear hcc hc hgd hls hlc hins hbw hBk e2;go_wp2_with fail
   clear c0;have hwz:=(J HBW).size;generalize hwr:wr=V0 at HBW hwz ⊢;clear hwr;go_loopw [24] (fun j w'=>∃ m:Nat,j=.int .i64 m∧m<=bl.length∧Below V0.heap.size V0 w'∧∀ q,q<m->Zky p f k q=true) (fun j _=>bl.length-(intOf j).toNat)
   case atStart=>exact⟨0,rfl,by omega,Below.refl _ _,fun q hq=>by omega⟩
   case round =>
    obtain⟨m,rfl,hm,hbm,hmo⟩:=hrel;have HMO:=Za hmo;clear hmo;have hWm:Below W.heap.size W wr:=Zd (J HBW) hbm hwz;have hmz:=hbm.size;by_cases hm2:m<bl.length
    ·obtain⟨sl,sx,rfl,hslt,hcell⟩:=J HLC (by omega);have hic:=J HINS m hm2;have hgm:bl[m]=bl.getD m Lc:=by simp [List.getD,hm2]
     rw [hgm] at hic;have HOM:=Za ((J HOK) m);have HNM:=Za ((J HNJ) m);generalize bl.getD m Lc=i at hic HOM HNM;obtain⟨av,ov,hAi,hav,hov⟩:=hic;have HAV:=Za hav;have HOV:=Za hov;obtain⟨pa,ca,rfl⟩:=hav.shape;obtain⟨po,co,rfl⟩:=hov.shape;have hcm:=hcell m hm2;rw [hAi] at hcm;have k0:=(hWm.cell hslt).trans (hcm 0 _ rfl);have k1:=(hWm.cell hslt).trans (hcm 1 _ rfl);have k2:=(hWm.cell hslt).trans (hcm 2 _ rfl);have k3:=(hWm.cell hslt).trans (hcm 3 _ rfl);have k4:=(hWm.cell hslt).trans (hcm 4 _ rfl);have k5:=(hWm.cell hslt).trans (hcm 5 _ rfl);have k6:=(hWm.cell hslt).trans (hcm 6 _ rfl);have k7:=(hWm.cell hslt).trans (hcm 7 _ rfl);rw [Nat.add_zero] at k0;have hrow:=(hWm.block (w.heap.size+1+1) (by have:=J HZ; omega)).trans (J HR3);have s0:=fun X:Obj=>(Gm hrow 0 X).trans rfl;have s1:=fun X:Obj=>(Gm hrow 1 X).trans rfl;have s2:=fun X:Obj=>(Gm hrow 2 X).trans rfl;have s3:=fun X:Obj=>(Gm hrow 3 X).trans rfl;have s4:=fun X:Obj=>(Gm hrow 4 X).trans rfl;have s5:=fun X:Obj=>(Gm hrow 5 X).trans rfl;have s6:=fun X:Obj=>(Gm hrow 6 X).trans rfl;have hlast:((m:Int)==(bl.length:Int)-1)=decide (m+1=bl.length):=by rw [show((m:Int)==(bl.length:Int)-1)=decide ((m:Int)=(bl.length:Int)-1) from rfl];exact decide_eq_decide.2 (by omega)
     have HWM:=Za hWm;have HBM:=Za hbm;clear hcm hcell hrow hWm hbm hAi hav hov hgm;generalize hld:decide (m+1=bl.length)=last at hlast HOM;clear hld;go_wp2_with fail
     have hy:=al0 wr (.cells #[.int .i64 i.op,.int .i64 i.d,.int .i64 i.a,.int .i64 i.bb,.int .u64 i.n,.int .i64 i.f,.slice pa i.args.length ca,.slice po i.outs.length co] 110 (0,0));have hbU:=Zd (J HWM) hy.2.1 (by have:=(J HWM).size; omega);refine(Ybm p f i last _ _ _ _ _ _ _ _ A E B _ ((J HSC).below hbU) ((J HAV).below hbU) ((J HOV).below hbU) (J HF) (J HNM) ((J HNA).keep hbU) (by have:=J HZ; have:=hbU.size; omega)).mono ?_;rintro e w3 ⟨rfl,hb3⟩;have HU:=Za (Zd (Zd (J HBM) hy.2.1 hmz) hb3 (by have:=hy.2.2; omega));have HU2:=Za (Zd hbU hb3 hbU.size);clear hb3 hy hbU k0 k1 k2 k3 k4 k5 k6 k7 s0 s1 s2 s3 s4 s5 s6;cases hfi:Zat p f i last with
     | false =>
      have hokf:=(J HOM).trans hfi;have hbf:Zhp p f k=false:=by rw [J HBB]; exact Gd hm2 hokf
      have hx:=Za (show Gh p f=((k:Int),(m:Int)) by rw [J HWR hbf,Uc (J HMO) hm2 hokf]; rfl);clear hfi hokf hbf;go_wp2;go_returns;exact⟨by rw [J hx]; rfl,Zd (J HW) (J HU2) (by have:=J HZ; omega)⟩
     | true =>
      have hx:=Za (Jc (J HMO) ((J HOM).trans hfi));clear hfi;go_wp2;go_roundw
      case rel=>exact⟨m+1,by go_num,by omega,J HU,J hx⟩
      case measure=>simp [intOf]; omega
    ·have hx:=Za (Jc (q:=Zhp p f) (J HNO) (by rw [J HBB]; exact Ld (fun q hq=>J HMO q (by omega))));obtain rfl:m=bl.length:=by omega
     have HWM:=Za hWm;clear hWm hbm;go_wp2;go_roundw
     case rel=>exact⟨k+1,by go_num,by omega,J HWM,J hx⟩
     case measure=>simp [intOf]; omega
  ·have hx:=Za (show Gh p f=(-1,-1) by unfold Gh; rw [Mx (fun q hq=>J HNO q (by omega))]);obtain rfl:k=f.blocks.length:=by omega
   have HBW:=Za hbw;clear hbw;go_wp2;go_returns;exact⟨by rw [J hx]; rfl,Zd (J HW) (J HBW) (by have:=J HZ; omega)⟩
set_option maxHeartbeats 4000000
set_option maxRecDepth 100000
theorem LS.twos {w:World}{v:Value}{n:Nat}{A:Nat->Array Value}(h:LS 2 w v n A):∃ p cap,v=.slice p n cap∧n<9223372036854775808∧(0<n->∃ sb so,p=some ⟨sb,so,none⟩∧sb<w.heap.size∧∀ k,k<n->∀ j x,(A k)[j]?=some x->w.cell? ⟨sb,so+k*2+j,none⟩=some x):=by obtain⟨p,cap,h1,h2,h3,h4⟩:=h;refine⟨p,cap,h1,h3,fun h0=>?_⟩;obtain⟨sb,so,e,hl,hc⟩:=h4 h0;exact⟨sb,so,e,hl,fun k hk j x hx=>hc k hk j x (by simpa using hx)⟩
theorem LS.fives {w:World}{v:Value}{n:Nat}{A:Nat->Array Value}(h:LS 5 w v n A):∃ p cap,v=.slice p n cap∧n<9223372036854775808∧(0<n->∃ sb so,p=some ⟨sb,so,none⟩∧sb<w.heap.size∧∀ k,k<n->∀ j x,(A k)[j]?=some x->w.cell? ⟨sb,so+k*5+j,none⟩=some x):=by obtain⟨p,cap,h1,h2,h3,h4⟩:=h;refine⟨p,cap,h1,h3,fun h0=>?_⟩;obtain⟨sb,so,e,hl,hc⟩:=h4 h0;exact⟨sb,so,e,hl,fun k hk j x hx=>hc k hk j x (by simpa using hx)⟩
theorem Zho (p:Zj)(fv ev:Value)(A E:Nat->Array Value)(w:World)(hP:Mk w fv ev p A E):Calls Tryz.prog 88 #[.agg #[fv,ev]] w fun e w'=>e=.returned (.bool (Jn p))∧Below w.heap.size w w':=by
 have hx:=al0 w (.cells #[fv,ev] 62 (0,0));have HP:=Za (hP.below hx.2.1);have hl4:p.funcs.length<9223372036854775808:=by obtain⟨_,_,_,_,h,_⟩:=hP.fs; exact h
 have hl5:p.externs.length<9223372036854775808:=by obtain⟨_,_,_,_,h,_⟩:=hP.es; exact h
 obtain⟨pf,cf,rfl⟩:=hP.fs.shape;obtain⟨pe,ce,rfl⟩:=hP.es.shape;have HX:=Za hx;clear hx hP;go_enter Tryz.func88,Tryz.ntmps88
 go_wp2_with fail
 refine(Jk p.funcs.length 1 8 _).mono ?_;rintro e w2 ⟨rfl,h2⟩;subst w2;cases h1:Gn p.funcs.length 1 8 with
 | false=>have hz:=Za (show Jn p=false by unfold Jn; rw [h1]; rfl);clear h1;go_wp2;go_ret;exact⟨by rw [J hz]; rfl,(J HX).2.1⟩
 | true =>
  have H1:=Za h1;clear h1;by_cases h4:p.externs.length<=4
  ·have HCB:=Za (show Jn p=upB p.externs.length (fun k=>Ns (p.externs.getD k ([],0))) by unfold Jn; rw [J H1]; simp [h4]);go_wp2_with fail
   generalize World.alloc w _=W at HP HX ⊢;go_loopw [19] (fun j w'=>∃ k:Nat,j=.int .i64 k∧k<=p.externs.length∧Below W.heap.size W w'∧∀ q,q<k->Ns (p.externs.getD q ([],0))=true) (fun j _=>p.externs.length-(intOf j).toNat)
   case atStart=>exact⟨0,rfl,by omega,Below.refl _ _,fun q hq=>by omega⟩
   case round =>
    obtain⟨k,rfl,hk,hbw,hno⟩:=hrel;have HNO:=Za hno;clear hno;have hws:=hbw.size;have hWs:=(J HX).2.2;by_cases hk2:k<p.externs.length
    ·obtain⟨p',cap',he,-,hcc⟩:=(J HP).es.twos;injection he with e1 e2 e3;subst e1 e3;obtain⟨sb,so,rfl,hslt,hc⟩:=hcc (by omega);have hsc:=(J HP).eeach k hk2;have hgd:p.externs[k]=p.externs.getD k ([],0):=by simp [List.getD,hk2]
     rw [hgd] at hsc;have HBAD:=Za (fun hb:Ns (p.externs.getD k ([],0))=false=>show Jn p=false by rw [J HCB]; exact Gd hk2 hb);have HNX:=Za (fun hb:Ns (p.externs.getD k ([],0))=true=>Jc (q:=fun q=>Ns (p.externs.getD q ([],0))) (J HNO) hb);generalize p.externs.getD k ([],0)=s at hsc HBAD HNX;obtain⟨lv,hE,hli⟩:=hsc;have HLI:=Za hli;obtain⟨pl,cl,rfl⟩:=hli.shape;have hck:=hc k hk2;rw [hE] at hck;have k0:=(hbw.cell hslt).trans (hck 0 _ rfl);have k1:=(hbw.cell hslt).trans (hck 1 _ rfl);rw [Nat.add_zero] at k0;have HBW:=Za hbw;clear hck hc hcc hE hgd hli hbw e2;go_wp2_with fail
     have hy:=al0 wr (.cells #[.slice pl s.1.length cl,.int .i64 s.2] 43 (0,0));have hbU:=Zd (J HBW) hy.2.1 hws;refine(Cr _ s.1 s.2 _ ((J HLI).below hbU)).mono ?_;rintro e w3 ⟨rfl,hb3⟩;have HU:=Za (Zd hbU hb3 hbU.size);clear hb3 hbU hy k0 k1;rw [show((s.1,s.2):List Int×Int)=s from rfl];cases hsb:Ns s with
     | false=>have hz:=Za (J HBAD hsb);clear hsb;go_wp2;go_ret;exact⟨by rw [J hz]; rfl,Zd (J HX).2.1 (J HU) (by omega)⟩
     | true =>
      have hz:=Za (J HNX hsb);clear hsb;go_wp2;go_roundw
      case rel=>exact⟨k+1,by go_num,by omega,J HU,J hz⟩
      case measure=>simp [intOf]; omega
    ·have hz:=Za (show Jn p=true by rw [J HCB]; exact Ld (fun q hq=>J HNO q (by omega)));obtain rfl:k=p.externs.length:=by omega
     have HBW:=Za hbw;clear hbw;go_wp2;go_ret;exact⟨by rw [J hz]; rfl,Zd (J HX).2.1 (J HBW) (by omega)⟩
  ·have hz:=Za (show Jn p=false by unfold Jn; simp [h4]);go_wp2;go_ret;exact⟨by rw [J hz]; rfl,(J HX).2.1⟩
theorem Znn (a b c:Int)(w:World):Calls Tryz.prog 90 #[.int .i64 a,.int .i64 b,.int .i64 c] w fun e w'=>e=.returned (.iface 130 (.pointer (some ⟨w.heap.size,0,none⟩)))∧w'=w.alloc (.cells #[.iface 127 (.int .i64 5),.int .i64 a,.int .i64 b,.int .i64 c] 133 (0,0)):=by
 go_enter Tryz.func90,Tryz.ntmps90
 go_wp2;go_ret;exact⟨rfl,rfl⟩
end Go.Proofs.YtkenknfgeoecbaaGreatDoor
