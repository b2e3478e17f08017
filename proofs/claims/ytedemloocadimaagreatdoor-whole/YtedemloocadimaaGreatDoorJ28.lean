import Derived.Test.YtedemloocadimaaGreatDoorJ24
import Derived.Test.YtedemloocadimaaGreatDoorCkL
import Derived.Test.YtedemloocadimaaGreatDoorTblReg
import Derived.Test.YtedemloocadimaaGreatDoorJ19
import Derived.Deep.QuietTactic
import Derived.BigQuiet
import Derived.Test.YtedemloocadimaaGreatDoorJ30
import Derived.Test.YtedemloocadimaaGreatDoorCards
import Derived.Test.YtedemloocadimaaGreatDoorTie
import Derived.RegionCalls
import Derived.Test.YtedemloocadimaaGreatDoorJ23
import Derived.WalkKit
import Derived.ProofKit
import Derived.OpenShut
import Derived.Carry
import Derived.Deep.DeepHandedRow
import Derived.Lib.LaidTab
import Derived.Lay
import Derived.SevenTiedAt
import Derived.Deep.CutRange
import Derived.Test.YtedemloocadimaaGreatDoorJ13
import Derived.Deep.RegionHeld3
namespace Go.Proofs.YtedemloocadimaaGreatDoor
open Go.RowKit
set_option maxHeartbeats 4000000
set_option maxRecDepth 100000
theorem Ycm:FfS 13:=by
 intro p f d a bb n fx gs os fv ev pv hv sv bv av ov A E B w hSC ha ho hF hn;obtain⟨pf,cf,pe,ce,pp,cp,ph,ch,ps,cs,pb,cb,pa,ca,po,co,rfl,rfl,rfl,rfl,rfl,rfl,rfl,rfl,⟨hl1,hl2,hl3,hl4,hl5,hl6⟩,HSC,HA,HO,HW,HR1,HR2,HZ⟩:=Ou 13 d a bb n fx hSC ha ho _ rfl;have HF:=Za hF;have HNN:=Za hn;clear hSC ha ho hF hn;go_enter Tryz.func181,Tryz.ntmps181
 go_wp2_with fail
 generalize World.alloc (World.alloc w _) _=W at HSC HA HO HW HR1 HR2 HZ ⊢;have hT:=J HZ;cases hr:Gm fx 0 (p.externs.length-1) with
 | false =>
  have HX:=Za (show Zu p f ⟨13,d,a,bb,n,fx,gs,os⟩=false by unfold Zu; simp [hr]);have HWI:=Za (fun V=>Xz fx 0 (p.externs.length-1) V);rw [hr] at HWI;have s1:=(cR (J HR1) 1);have i5:=(cR (J HR2) 5);clear hT hr;go_quiet ((go_at_call 114; exact Calls.quiet_of_same (J HWI _)))
  go_wp2;go_ret;exact⟨by rw [J HX]; rfl,Lw (J HW) _⟩
 | true =>
  unfold Gm at hr;obtain⟨g0,g1⟩:=of_decide_eq_true hr;obtain⟨m,rfl⟩:∃ m:Nat,fx=m:=⟨fx.toNat,by omega⟩;have hm:m<p.externs.length:=by omega
  obtain⟨p',cap',he,-,-,hcc⟩:=(J HSC).prog.es;injection he with e1 e2 e3;subst e1 e3;obtain⟨sb,so,rfl,hsbl,hc⟩:=hcc (by omega);have hel:=hc m hm;have hfc:=(J HSC).prog.eeach m hm;have hgd:p.externs[m]=p.externs.getD m ([],0):=by simp [List.getD,hm]
  rw [hgd] at hfc;have hg8:=(J HF).externs m hm;have HX:=Za (show Zu p f ⟨13,d,a,bb,n,m,gs,os⟩=(Uf f ⟨13,d,a,bb,n,m,gs,os⟩ (p.externs.getD m ([],0))) by unfold Zu Gm; simp only [Int.toNat_natCast]; simp; omega);generalize p.externs.getD m ([],0)=s at hfc hg8 HX;obtain⟨gv,hA,hli⟩:=hfc;have HLI:=Za hli;obtain⟨gp,gc,rfl⟩:=hli.shape;rw [hA] at hel;have e0:=hel 0 _ rfl;have e1:=hel 1 _ rfl;rw [Nat.add_zero] at e0;have HK:=Za (fun(V:World) (h:Below W.heap.size W V)=>show Below W.heap.size W V∧V.cell? ⟨w.heap.size,0,none⟩=some (.slice pf p.funcs.length cf)∧V.cell? ⟨w.heap.size,1,none⟩=some (.slice (some ⟨sb,so,none⟩) p.externs.length ce)∧V.cell? ⟨w.heap.size,2,none⟩=some (.slice pp f.params.length cp)∧V.cell? ⟨w.heap.size,3,none⟩=some (.int .i64 f.results)∧V.cell? ⟨w.heap.size,4,none⟩=some (.slice ph f.homes.length ch)∧V.cell? ⟨w.heap.size,5,none⟩=some (.slice ps f.slots.length cs)∧V.cell? ⟨w.heap.size,6,none⟩=some (.slice pb f.blocks.length cb)∧V.cell? ⟨w.heap.size+1,0,none⟩=some (.int .i64 13)∧V.cell? ⟨w.heap.size+1,1,none⟩=some (.int .i64 d)∧V.cell? ⟨w.heap.size+1,2,none⟩=some (.int .i64 a)∧V.cell? ⟨w.heap.size+1,3,none⟩=some (.int .i64 bb)∧V.cell? ⟨w.heap.size+1,4,none⟩=some (.int .u64 n)∧V.cell? ⟨w.heap.size+1,5,none⟩=some (.int .i64 ↑m)∧V.cell? ⟨w.heap.size+1,6,none⟩=some (.slice pa gs.length ca)∧V.cell? ⟨w.heap.size+1,7,none⟩=some (.slice po os.length co)∧V.cell? ⟨sb,so+m*2,none⟩=some (.slice gp s.1.length gc)∧V.cell? ⟨sb,so+m*2+1,none⟩=some (.int .i64 s.2) from⟨h,(cR ((h.block w.heap.size (by omega)).trans (J HR1)) 0),(cR ((h.block w.heap.size (by omega)).trans (J HR1)) 1),(cR ((h.block w.heap.size (by omega)).trans (J HR1)) 2),(cR ((h.block w.heap.size (by omega)).trans (J HR1)) 3),(cR ((h.block w.heap.size (by omega)).trans (J HR1)) 4),(cR ((h.block w.heap.size (by omega)).trans (J HR1)) 5),(cR ((h.block w.heap.size (by omega)).trans (J HR1)) 6),(cR ((h.block (w.heap.size+1) (by omega)).trans (J HR2)) 0),(cR ((h.block (w.heap.size+1) (by omega)).trans (J HR2)) 1),(cR ((h.block (w.heap.size+1) (by omega)).trans (J HR2)) 2),(cR ((h.block (w.heap.size+1) (by omega)).trans (J HR2)) 3),(cR ((h.block (w.heap.size+1) (by omega)).trans (J HR2)) 4),(cR ((h.block (w.heap.size+1) (by omega)).trans (J HR2)) 5),(cR ((h.block (w.heap.size+1) (by omega)).trans (J HR2)) 6),(cR ((h.block (w.heap.size+1) (by omega)).trans (J HR2)) 7),(h.cell hsbl).trans e0,(h.cell hsbl).trans e1⟩)
  have HWI:=Za (fun V=>Xz (m:Int) 0 (IntKind.i64.wrap (p.externs.length-1)) V);have hin:Gm (m:Int) 0 (IntKind.i64.wrap (p.externs.length-1))=true:=by rw [IntKind.wrap_of_boundsK (by omega) (by omega)]; unfold Gm; simp; omega
  rw [hin] at HWI;have HCF:=Za (Zco f ⟨13,d,a,bb,n,m,gs,os⟩ s (.slice pf p.funcs.length cf) (.slice (some ⟨sb,so,none⟩) p.externs.length ce) (.slice pp f.params.length cp) (.slice ph f.homes.length ch) (.slice ps f.slots.length cs) (.slice pb f.blocks.length cb) (.slice pa gs.length ca) (.slice po os.length co) (.slice gp s.1.length gc) W.drew ((J HSC).below (Below.refl W.heap.size W).drew).func.hs ((J HSC).below (Below.refl W.heap.size W).drew).func.ss ((J HA).below (Below.refl W.heap.size W).drew) ((J HO).below (Below.refl W.heap.size W).drew) ((J HLI).below (Below.refl W.heap.size W).drew) (by omega));have HWJ:=Za (J HWI W.drew);have HK0:=Za (J HK W.drew (Below.refl W.heap.size W).drew);clear hT hr hin hli hel e0 e1 hcc hc hgd g0 g1 hA;refine wp_region_held_drew (S:=fun V=>Below W.heap.size W V∧V.cell? ⟨w.heap.size,0,none⟩=some (.slice pf p.funcs.length cf)∧V.cell? ⟨w.heap.size,1,none⟩=some (.slice (some ⟨sb,so,none⟩) p.externs.length ce)∧V.cell? ⟨w.heap.size,2,none⟩=some (.slice pp f.params.length cp)∧V.cell? ⟨w.heap.size,3,none⟩=some (.int .i64 f.results)∧V.cell? ⟨w.heap.size,4,none⟩=some (.slice ph f.homes.length ch)∧V.cell? ⟨w.heap.size,5,none⟩=some (.slice ps f.slots.length cs)∧V.cell? ⟨w.heap.size,6,none⟩=some (.slice pb f.blocks.length cb)∧V.cell? ⟨w.heap.size+1,0,none⟩=some (.int .i64 13)∧V.cell? ⟨w.heap.size+1,1,none⟩=some (.int .i64 d)∧V.cell? ⟨w.heap.size+1,2,none⟩=some (.int .i64 a)∧V.cell? ⟨w.heap.size+1,3,none⟩=some (.int .i64 bb)∧V.cell? ⟨w.heap.size+1,4,none⟩=some (.int .u64 n)∧V.cell? ⟨w.heap.size+1,5,none⟩=some (.int .i64 ↑m)∧V.cell? ⟨w.heap.size+1,6,none⟩=some (.slice pa gs.length ca)∧V.cell? ⟨w.heap.size+1,7,none⟩=some (.slice po os.length co)∧V.cell? ⟨sb,so+m*2,none⟩=some (.slice gp s.1.length gc)∧V.cell? ⟨sb,so+m*2+1,none⟩=some (.int .i64 s.2)) (by kernel_rfl) (J HK0) (fun hHeld=>?_)
  refine tT 0 ?_;refine tT 1 ?_;refine tT 2 ?_;refine tT 3 ?_;refine tT 4 ?_;refine tT 5 ?_;refine tT 6 ?_;refine tO 7 fun K hK=>?_;go_simp;refine(J HWJ).mono ?_;rintro e w5 ⟨rfl,hb5⟩;subst w5;go_wp2_with fail
  refine kO hK (J HK0) (fun hHeld2=>?_);clear hK K;refine tT 8 ?_;refine tT 9 ?_;refine tT 10 ?_;refine tT 11 ?_;refine tT 12 ?_;refine tT 13 ?_;refine tT 14 ?_;refine tT 15 ?_;refine tT 16 ?_;refine tT 17 ?_;refine tO 18 fun K hK=>?_;go_simp;refine(J HCF).mono ?_;rintro e w7 ⟨rfl,hb7⟩;have HB7:=Za (Zd (Below.refl W.heap.size W).drew hb7 (Nat.le_refl _));clear hb7;go_wp2_with fail
  refine kO hK (J HK _ (J HB7)) (fun hHeld2=>?_);clear hK K;refine tT 19 ?_;refine tT 20 ?_;refine wpAnyH_done (by kernel_rfl) ?_ _;go_wp2;go_ret;exact⟨by rw [J HX]; rfl,Zd (J HW) (J HB7) (by have:=J HZ; omega)⟩
set_option maxHeartbeats 4000000
set_option maxRecDepth 100000
theorem Zic (p:Zw)(f:Zy)(i:Zq)(fv ev pv hv sv bv av ov:Value)(A E:Nat→Array Value)(B:Nat→Value)(w:World)(h1:1≤i.op)(h18:i.op≤18)(hSC:ScD w p f fv ev pv hv sv bv A E B)(ha:LS 2 w av i.args.length (fun k=>Me (i.args.getD k (0,0))))(ho:Li w ov i.outs)(hF:Zts p f)(hn:0≤i.n∧i.n<18446744073709551616) :
 Calls Tryz.prog 181 #[.agg #[fv,ev,pv,.int .i64 f.results,hv,sv,bv],.agg #[.int .i64 i.op,.int .i64 i.d,.int .i64 i.a,.int .i64 i.bb,.int .u64 i.n,.int .i64 i.f,av,ov]] w fun e w'=>e=.returned (.bool (Zu p f i))∧Below w.heap.size w w':=by
 obtain⟨op,d,a,bb,n,fx,gs,os⟩:=i;simp only at h1 h18 ha ho hn ⊢;have hs:op=1∨op=2∨op=3∨op=4∨op=5∨op=6∨op=7∨op=8∨op=9∨op=10∨op=11∨op=12∨op=13∨op=14∨op=15∨op=16∨op=17∨op=18:=by omega
 rcases hs with rfl | rfl | rfl | rfl | rfl | rfl | rfl | rfl | rfl | rfl | rfl | rfl | rfl | rfl | rfl | rfl | rfl | rfl
 ·
  exact Yfd p f d a bb n fx gs os fv ev pv hv sv bv av ov A E B w hSC ha ho hF hn
 ·
  exact Yfe p f d a bb n fx gs os fv ev pv hv sv bv av ov A E B w hSC ha ho hF hn
 ·
  exact Yff p f d a bb n fx gs os fv ev pv hv sv bv av ov A E B w hSC ha ho hF hn
 ·
  exact Yfg p f d a bb n fx gs os fv ev pv hv sv bv av ov A E B w hSC ha ho hF hn
 ·
  exact Yfh p f d a bb n fx gs os fv ev pv hv sv bv av ov A E B w hSC ha ho hF hn
 ·
  exact Yfi p f d a bb n fx gs os fv ev pv hv sv bv av ov A E B w hSC ha ho hF hn
 ·
  exact Yfj p f d a bb n fx gs os fv ev pv hv sv bv av ov A E B w hSC ha ho hF hn
 ·
  exact Yfk p f d a bb n fx gs os fv ev pv hv sv bv av ov A E B w hSC ha ho hF hn
 ·
  exact Yfl p f d a bb n fx gs os fv ev pv hv sv bv av ov A E B w hSC ha ho hF hn
 ·
  exact Ych p f d a bb n fx gs os fv ev pv hv sv bv av ov A E B w hSC ha ho hF hn
 ·
  exact Yci p f d a bb n fx gs os fv ev pv hv sv bv av ov A E B w hSC ha ho hF hn
 ·
  exact Yck p f d a bb n fx gs os fv ev pv hv sv bv av ov A E B w hSC ha ho hF hn
 ·
  exact Ycm p f d a bb n fx gs os fv ev pv hv sv bv av ov A E B w hSC ha ho hF hn
 ·
  exact Yce p f d a bb n fx gs os fv ev pv hv sv bv av ov A E B w hSC ha ho hF hn
 ·
  exact Ycg p f d a bb n fx gs os fv ev pv hv sv bv av ov A E B w hSC ha ho hF hn
 ·
  exact Ycj p f d a bb n fx gs os fv ev pv hv sv bv av ov A E B w hSC ha ho hF hn
 ·
  exact Ycl p f d a bb n fx gs os fv ev pv hv sv bv av ov A E B w hSC ha ho hF hn
 ·
  exact Ycf p f d a bb n fx gs os fv ev pv hv sv bv av ov A E B w hSC ha ho hF hn
theorem Ycn (op:Int)(w:World):Calls Tryz.prog 179 #[.int .i64 op] w fun e w'=>e=.returned (.bool (Gm op 14 18))∧w'=w:=by
 unfold Gm;by_cases h1:14≤op
 ·
  by_cases h2:op≤18
  ·
   have hd:decide (14≤op∧op≤18)=true:=by simp; omega
   rw [hd];clear hd;go_enter Tryz.func179,Tryz.ntmps179
   go_wp2;go_ret;exact⟨rfl,rfl⟩
  ·
   have hd:decide (14≤op∧op≤18)=false:=by simp; omega
   rw [hd];clear hd;go_enter Tryz.func179,Tryz.ntmps179
   go_wp2;go_ret;exact⟨rfl,rfl⟩
 ·
  have hd:decide (14≤op∧op≤18)=false:=by simp; omega
  rw [hd];clear hd;go_enter Tryz.func179,Tryz.ntmps179
  go_wp2;go_ret;exact⟨rfl,rfl⟩
theorem Ztt (op:Int)(w:World)(hg:Zs w)(h:¬ (1≤op∧op≤18)):Calls Tryz.prog 178 #[.int .i64 op] w fun e w'=>e=.returned (.int .u8 0)∧w'=w:=by
 by_cases h0:op<0
 ·
  clear h;go_enter Tryz.func178,Tryz.ntmps178
  go_wp2;go_ret;exact⟨rfl,rfl⟩
 ·
  by_cases h19:19≤op
  ·
   clear h;go_enter Tryz.func178,Tryz.ntmps178
   go_wp2;go_ret;exact⟨rfl,rfl⟩
  ·
   obtain rfl:op=0:=by omega
   have c0:=(hg 0 (by decide)).trans rfl;clear h h0 h19 hg;go_enter Tryz.func178,Tryz.ntmps178
   go_wp2;go_ret;exact⟨rfl,rfl⟩
theorem Zyp (op:Int)(h1:1≤op)(h2:op≤18):((Xa op) != 0)=true:=by
 have hs:op=1∨op=2∨op=3∨op=4∨op=5∨op=6∨op=7∨op=8∨op=9∨op=10∨op=11∨op=12∨op=13∨op=14∨op=15∨op=16∨op=17∨op=18:=by omega
 rcases hs with rfl | rfl | rfl | rfl | rfl | rfl | rfl | rfl | rfl | rfl | rfl | rfl | rfl | rfl | rfl | rfl | rfl | rfl <;> rfl
theorem Zs.keep {w w':World}(h:Zs w)(hb:Below w.heap.size w w'):Zs w':=fun k hk=>(hb.cell (World.block_lt_of_cell? w _ (h k hk))).trans (h k hk)
theorem Yco (p:Zw)(f:Zy)(i:Zq)(last:Bool)(fv ev pv hv sv bv av ov:Value)(A E:Nat→Array Value)(B:Nat→Value)(w:World)(hSC:ScD w p f fv ev pv hv sv bv A E B)(ha:LS 2 w av i.args.length (fun k=>Me (i.args.getD k (0,0))))(ho:Li w ov i.outs)(hF:Zts p f)(hn:0≤i.n∧i.n<18446744073709551616)(hN:Zs w)(h1w:2<w.heap.size) :
 Calls Tryz.prog 119 #[.agg #[fv,ev,pv,.int .i64 f.results,hv,sv,bv],.agg #[.int .i64 i.op,.int .i64 i.d,.int .i64 i.a,.int .i64 i.bb,.int .u64 i.n,.int .i64 i.f,av,ov],.bool last] w fun e w'=>e=.returned (.bool (Zce p f i last))∧Below w.heap.size w w':=by
 have hx:=Gk w (.cells #[fv,ev,pv,.int .i64 f.results,hv,sv,bv] 246 (0,0));generalize hW1:World.alloc w (.cells #[fv,ev,pv,.int .i64 f.results,hv,sv,bv] 246 (0,0))=W1 at hx;have hx2:=Gk W1 (.cells #[.int .i64 i.op,.int .i64 i.d,.int .i64 i.a,.int .i64 i.bb,.int .u64 i.n,.int .i64 i.f,av,ov] 89 (0,0));have hs1:=hx.2.2;have hs2:=hx2.2.2;have hb12:=Zd hx.2.1 hx2.2.1 (by omega);have HSC:=Za (hSC.below hb12);have HA:=Za (ha.below hb12);have HO:=Za (ho.below hb12);have HNA:=Za (hN.keep hb12);have HW:=Za hb12;have HR1:=Za ((hx2.2.1.block w.heap.size (by omega)).trans hx.1);have hr2:=hx2.1;rw [hs1] at hr2 hs2;have HR2:=Za hr2;have HZ:=Za hs2;have HF:=Za hF;have HNN:=Za hn;obtain⟨pf,cf,rfl⟩:=hSC.prog.fs.shape;obtain⟨pe,ce,rfl⟩:=hSC.prog.es.shape;obtain⟨pp,cp,rfl⟩:=hSC.func.ps.shape;obtain⟨ph,ch,rfl⟩:=hSC.func.hs.shape;obtain⟨ps,cs,rfl⟩:=hSC.func.ss.shape;obtain⟨pb,cb,rfl⟩:=hSC.func.bs.shape;obtain⟨pa,ca,rfl⟩:=ha.shape;obtain⟨po,co,rfl⟩:=ho.shape;have H1W:=Za h1w;clear hx hx2 hs1 hs2 hb12 hr2 hSC ha ho hF hn hN h1w;subst hW1;go_enter Tryz.func119,Tryz.ntmps119
 go_wp2_with fail
 generalize World.alloc (World.alloc w _) _=W at HSC HA HO HNA HW HR1 HR2 HZ ⊢;have i0:=(cR (J HR2) 0);have i1:=(cR (J HR2) 1);have i2:=(cR (J HR2) 2);have i3:=(cR (J HR2) 3);have i4:=(cR (J HR2) 4);have i5:=(cR (J HR2) 5);have i6:=(cR (J HR2) 6);have i7:=(cR (J HR2) 7);by_cases hop:1≤i.op∧i.op≤18
 ·
  refine(Gj i.op hop.1 hop.2 W (J HNA)).mono ?_;rintro e w2 ⟨rfl,h2⟩;subst w2;have zn:=Zyp i.op hop.1 hop.2;generalize Xa i.op=nd at zn ⊢;have HOP:=Za hop;clear hop;go_wp2_with fail
  refine(Ycn i.op W).mono ?_;rintro e w2 ⟨rfl,h2⟩;subst w2;have HI:=Za (show Zce p f i last=((Gm i.op 14 18==last)&&(!i.spare&&Zu p f i)) by
   have hop:=J HOP;unfold Zce Gm;have e1:decide (1≤i.op∧i.op≤18)=true:=decide_eq_true hop;have e2:decide (14≤i.op∧i.op≤18)=decide (14≤i.op):=decide_eq_decide.2 ⟨fun h=>h.1,fun h=>⟨h,hop.2⟩⟩;rw [e1,e2,Bool.true_and])
  generalize Gm i.op 14 18=en at HI ⊢;by_cases hel:en=last
  ·
   subst hel;have ze:(en==en)=true:=by simp
   go_wp2_with fail
   refine(Lp i.op i.d i.a i.bb i.n i.f pa po i.args.length i.outs.length ca co W (J HOP).1 (J HOP).2 (J HNA) (World.block_lt_of_cell? W _ (J HNA 0 (by decide)))).mono ?_;rintro e w2 ⟨rfl,hb⟩;have HB2:=Za hb;clear hb i0 i1 i2 i3 i4 i5 i6 i7;have hz:=J HZ;have hrs:=((J HB2).block w.heap.size (by omega)).trans (J HR1);have hri:=((J HB2).block (w.heap.size+1) (by omega)).trans (J HR2);have s0:=(cR hrs 0);have s1:=(cR hrs 1);have s2:=(cR hrs 2);have s3:=(cR hrs 3);have s4:=(cR hrs 4);have s5:=(cR hrs 5);have s6:=(cR hrs 6);have i0:=(cR hri 0);have i1:=(cR hri 1);have i2:=(cR hri 2);have i3:=(cR hri 3);have i4:=(cR hri 4);have i5:=(cR hri 5);have i6:=(cR hri 6);have i7:=(cR hri 7);clear hz hrs hri;cases hsp:i.spare with
   | true =>
    have hx:=Za (show Zce p f i en=false by rw [J HI,hsp]; simp);have hsp':Xc i.op i.d i.a i.bb i.n i.f i.args.length i.outs.length=true:=hsp;rw [hsp'];clear hsp hsp';go_wp2;go_ret;exact⟨by rw [J hx]; rfl,Zd (J HW) (J HB2) (by have:=J HZ; omega)⟩
   | false =>
    have HX:=Za (show Zce p f i en=Zu p f i by rw [J HI,hsp]; simp);have hsp':Xc i.op i.d i.a i.bb i.n i.f i.args.length i.outs.length=false:=hsp;rw [hsp'];clear hsp hsp';go_wp2_with fail
    refine(Zic p f i _ _ _ _ _ _ _ _ A E B w2 (J HOP).1 (J HOP).2 ((J HSC).below (J HB2)) ((J HA).below (J HB2)) ((J HO).below (J HB2)) (J HF) (J HNN)).mono ?_;rintro e w3 ⟨rfl,hb⟩;have HB3:=Za (Zd (J HB2) hb (J HB2).size);clear hb;go_wp2;go_ret;exact⟨by rw [J HX]; rfl,Zd (J HW) (J HB3) (by have:=J HZ; omega)⟩
  ·
   have ze:(en==last)=false:=by simpa using hel
   have hx:=Za (show Zce p f i last=false by rw [J HI,ze]; rfl);clear hel;go_wp2;go_ret;exact⟨by rw [J hx]; rfl,J HW⟩
 ·
  refine(Ztt i.op W (J HNA) hop).mono ?_;rintro e w2 ⟨rfl,h2⟩;subst w2;have hx:=Za (show Zce p f i last=false by unfold Zce Gm; rw [decide_eq_false hop]; rfl);clear hop;go_wp2;go_ret;exact⟨by rw [J hx]; rfl,J HW⟩
set_option maxHeartbeats 8000000
set_option maxRecDepth 100000
def Yfm (f:Zy):Prop:=∀ k j,0≤((f.blocks.getD k []).getD j Dd).n∧((f.blocks.getD k []).getD j Dd).n<18446744073709551616
theorem LS.eights {w:World}{v:Value}{n:Nat}{A:Nat→Array Value}(h:LS 8 w v n A):∃ p cap,v=.slice p n cap∧n<9223372036854775808∧(0<n→∃ sb so,p=some ⟨sb,so,none⟩∧sb<w.heap.size∧∀ k,k<n→∀ j x,(A k)[j]?=some x→w.cell? ⟨sb,so+k*8+j,none⟩=some x):=by
 obtain⟨p,cap,h1,h2,h3,h4⟩:=h;refine⟨p,cap,h1,h3,fun h0=>?_⟩;obtain⟨sb,so,e,hl,hc⟩:=h4 h0;exact⟨sb,so,e,hl,fun k hk j x hx=>hc k hk j x (by simpa using hx)⟩
theorem Zge (p:Zw)(f:Zy)(fv ev pv hv sv bv:Value)(A E:Nat→Array Value)(B:Nat→Value)(w:World)(hSC:ScD w p f fv ev pv hv sv bv A E B)(hF:Zts p f)(hnn:Yfm f)(hN:Zs w)(h1w:2<w.heap.size) :
 Calls Tryz.prog 78 #[.agg #[fv,ev],.agg #[pv,.int .i64 f.results,hv,sv,bv]] w fun e w'=>e=.returned (.tuple #[.int .i64 (Ml p f).1,.int .i64 (Ml p f).2])∧Below w.heap.size w w':=by
 have hx:=Gk w (.cells #[fv,ev] 25 (0,0));generalize hW1:World.alloc w (.cells #[fv,ev] 25 (0,0))=W1 at hx;have hx2:=Gk W1 (.cells #[pv,.int .i64 f.results,hv,sv,bv] 93 (0,0));generalize hW2:World.alloc W1 (.cells #[pv,.int .i64 f.results,hv,sv,bv] 93 (0,0))=W2 at hx2;have hx3:=Gk W2 (.cells #[fv,ev,pv,.int .i64 f.results,hv,sv,bv] 246 (0,0));have hs1:=hx.2.2;have hs2:=hx2.2.2;have hs3:=hx3.2.2;have hb12:=Zd hx.2.1 hx2.2.1 (by omega);have hb13:=Zd hb12 hx3.2.1 (by omega);have HSC:=Za (hSC.below hb13);have HNA:=Za (hN.keep hb13);have HW:=Za hb13;have hr3:=hx3.1;rw [hs2,hs1] at hr3 hs3;have HR3:=Za hr3;have HZ:=Za hs3;have HF:=Za hF;have HNN:=Za hnn;have H1W:=Za h1w;have hl3:f.blocks.length<9223372036854775808:=by obtain⟨_,_,_,_,h,_⟩:=hSC.func.bs; exact h
 obtain⟨pf,cf,rfl⟩:=hSC.prog.fs.shape;obtain⟨pe,ce,rfl⟩:=hSC.prog.es.shape;obtain⟨pp,cp,rfl⟩:=hSC.func.ps.shape;obtain⟨ph,ch,rfl⟩:=hSC.func.hs.shape;obtain⟨ps,cs,rfl⟩:=hSC.func.ss.shape;obtain⟨pb,cb,rfl⟩:=hSC.func.bs.shape;clear hx hx2 hx3 hs1 hs2 hs3 hb12 hb13 hr3 hSC hF hnn hN h1w;subst hW1 hW2;go_enter Tryz.func78,Tryz.ntmps78
 go_wp2_with fail
 generalize World.alloc (World.alloc (World.alloc w _) _) _=W at HSC HNA HW HR3 HZ ⊢;go_loopw [17] (fun j w'=>∃ k:Nat,j=.int .i64 k∧k≤f.blocks.length∧Below W.heap.size W w'∧∀ q,q<k→Zie p f q=true) (fun j _=>f.blocks.length-(intOf j).toNat)
 case atStart=>exact⟨0,rfl,by omega,Below.refl _ _,fun q hq=>by omega⟩
 case round =>
  obtain⟨k,rfl,hk,hbw,hno⟩:=hrel;have HNO:=Za hno;clear hno;by_cases hk2:k<f.blocks.length
  ·
   obtain⟨p',cap',he,-,-,hcc⟩:=(J HSC).func.bs.ones;injection he with e1 e2 e3;subst e1 e3;obtain⟨sb,so,rfl,hc⟩:=hcc (by omega);have c0:=(hbw.cell (World.block_lt_of_cell? W _ (hc k hk2))).trans (hc k hk2);have hblk:=(J HSC).func.each k hk2;have hgd:f.blocks[k]=f.blocks.getD k []:=by simp [List.getD,hk2]
   rw [hgd] at hblk;have HOK:=Za (fun j=>show Zlq p f k j=Zce p f ((f.blocks.getD k []).getD j Dd) (decide (j+1=(f.blocks.getD k []).length)) from rfl);have HBB:=Za (show Zie p f k=upB (f.blocks.getD k []).length (Zlq p f k) from rfl);have HNJ:=Za ((J HNN) k);have HWR:=Za (fun(hb:Zie p f k=false)=>show Ml p f=((k:Int),(((Nk (f.blocks.getD k []).length (Zlq p f k)).getD 0:Nat):Int)) by unfold Ml; rw [Ra (J HNO) hk2 hb]);generalize f.blocks.getD k []=bl at hblk HOK HBB HNJ HWR;obtain⟨Ai,hls,hins⟩:=hblk;obtain⟨pl,cl,hBk,hll,hlc⟩:=hls.eights;rw [hBk] at c0;have HLC:=Za hlc;have HINS:=Za hins;have HBW:=Za hbw;clear hcc hc hgd hls hlc hins hbw hBk e2;go_wp2_with fail
   clear c0;have hwz:=(J HBW).size;generalize hwr:wr=V0 at HBW hwz ⊢;clear hwr;go_loopw [24] (fun j w'=>∃ m:Nat,j=.int .i64 m∧m≤bl.length∧Below V0.heap.size V0 w'∧∀ q,q<m→Zlq p f k q=true) (fun j _=>bl.length-(intOf j).toNat)
   case atStart=>exact⟨0,rfl,by omega,Below.refl _ _,fun q hq=>by omega⟩
   case round =>
    obtain⟨m,rfl,hm,hbm,hmo⟩:=hrel;have HMO:=Za hmo;clear hmo;have hWm:Below W.heap.size W wr:=Zd (J HBW) hbm hwz;have hmz:=hbm.size;by_cases hm2:m<bl.length
    ·
     obtain⟨sl,sx,rfl,hslt,hcell⟩:=J HLC (by omega);have hic:=J HINS m hm2;have hgm:bl[m]=bl.getD m Dd:=by simp [List.getD,hm2]
     rw [hgm] at hic;have HOM:=Za ((J HOK) m);have HNM:=Za ((J HNJ) m);generalize bl.getD m Dd=i at hic HOM HNM;obtain⟨av,ov,hAi,hav,hov⟩:=hic;have HAV:=Za hav;have HOV:=Za hov;obtain⟨pa,ca,rfl⟩:=hav.shape;obtain⟨po,co,rfl⟩:=hov.shape;have hcm:=hcell m hm2;rw [hAi] at hcm;have k0:=(hWm.cell hslt).trans (hcm 0 _ rfl);have k1:=(hWm.cell hslt).trans (hcm 1 _ rfl);have k2:=(hWm.cell hslt).trans (hcm 2 _ rfl);have k3:=(hWm.cell hslt).trans (hcm 3 _ rfl);have k4:=(hWm.cell hslt).trans (hcm 4 _ rfl);have k5:=(hWm.cell hslt).trans (hcm 5 _ rfl);have k6:=(hWm.cell hslt).trans (hcm 6 _ rfl);have k7:=(hWm.cell hslt).trans (hcm 7 _ rfl);rw [Nat.add_zero] at k0;have hrow:=(hWm.block (w.heap.size+1+1) (by have:=J HZ; omega)).trans (J HR3);have s0:=fun X:Obj=>(Nj hrow 0 X).trans rfl;have s1:=fun X:Obj=>(Nj hrow 1 X).trans rfl;have s2:=fun X:Obj=>(Nj hrow 2 X).trans rfl;have s3:=fun X:Obj=>(Nj hrow 3 X).trans rfl;have s4:=fun X:Obj=>(Nj hrow 4 X).trans rfl;have s5:=fun X:Obj=>(Nj hrow 5 X).trans rfl;have s6:=fun X:Obj=>(Nj hrow 6 X).trans rfl;have hlast:((m:Int)==(bl.length:Int)-1)=decide (m+1=bl.length):=by
      rw [show((m:Int)==(bl.length:Int)-1)=decide ((m:Int)=(bl.length:Int)-1) from rfl];exact decide_eq_decide.2 (by omega)
     have HWM:=Za hWm;have HBM:=Za hbm;clear hcm hcell hrow hWm hbm hAi hav hov hgm;generalize hld:decide (m+1=bl.length)=last at hlast HOM;clear hld;go_wp2_with fail
     have hy:=Gk wr (.cells #[.int .i64 i.op,.int .i64 i.d,.int .i64 i.a,.int .i64 i.bb,.int .u64 i.n,.int .i64 i.f,.slice pa i.args.length ca,.slice po i.outs.length co] 89 (0,0));have hbU:=Zd (J HWM) hy.2.1 (by have:=(J HWM).size; omega);refine(Yco p f i last _ _ _ _ _ _ _ _ A E B _ ((J HSC).below hbU) ((J HAV).below hbU) ((J HOV).below hbU) (J HF) (J HNM) ((J HNA).keep hbU) (by have:=J HZ; have:=hbU.size; omega)).mono ?_;rintro e w3 ⟨rfl,hb3⟩;have HU:=Za (Zd (Zd (J HBM) hy.2.1 hmz) hb3 (by have:=hy.2.2; omega));have HU2:=Za (Zd hbU hb3 hbU.size);clear hb3 hy hbU k0 k1 k2 k3 k4 k5 k6 k7 s0 s1 s2 s3 s4 s5 s6;cases hfi:Zce p f i last with
     | false =>
      have hokf:=(J HOM).trans hfi;have hbf:Zie p f k=false:=by rw [J HBB]; exact Lc hm2 hokf
      have hx:=Za (show Ml p f=((k:Int),(m:Int)) by rw [J HWR hbf,Ra (J HMO) hm2 hokf]; rfl);clear hfi hokf hbf;go_wp2;go_returns;exact⟨by rw [J hx]; rfl,Zd (J HW) (J HU2) (by have:=J HZ; omega)⟩
     | true =>
      have hx:=Za (Gi (J HMO) ((J HOM).trans hfi));clear hfi;go_wp2;go_roundw
      case rel=>exact⟨m+1,by go_num,by omega,J HU,J hx⟩
      case measure=>simp [intOf]; omega
    ·
     have hx:=Za (Gi (q:=Zie p f) (J HNO) (by rw [J HBB]; exact Md (fun q hq=>J HMO q (by omega))));obtain rfl:m=bl.length:=by omega
     have HWM:=Za hWm;clear hWm hbm;go_wp2;go_roundw
     case rel=>exact⟨k+1,by go_num,by omega,J HWM,J hx⟩
     case measure=>simp [intOf]; omega
  ·
   have hx:=Za (show Ml p f=(-1,-1) by unfold Ml; rw [Ug (fun q hq=>J HNO q (by omega))]);obtain rfl:k=f.blocks.length:=by omega
   have HBW:=Za hbw;clear hbw;go_wp2;go_returns;exact⟨by rw [J hx]; rfl,Zd (J HW) (J HBW) (by have:=J HZ; omega)⟩
set_option maxHeartbeats 4000000
set_option maxRecDepth 100000
theorem LS.twos {w:World}{v:Value}{n:Nat}{A:Nat→Array Value}(h:LS 2 w v n A):∃ p cap,v=.slice p n cap∧n<9223372036854775808∧(0<n→∃ sb so,p=some ⟨sb,so,none⟩∧sb<w.heap.size∧∀ k,k<n→∀ j x,(A k)[j]?=some x→w.cell? ⟨sb,so+k*2+j,none⟩=some x):=by
 obtain⟨p,cap,h1,h2,h3,h4⟩:=h;refine⟨p,cap,h1,h3,fun h0=>?_⟩;obtain⟨sb,so,e,hl,hc⟩:=h4 h0;exact⟨sb,so,e,hl,fun k hk j x hx=>hc k hk j x (by simpa using hx)⟩
theorem LS.fives {w:World}{v:Value}{n:Nat}{A:Nat→Array Value}(h:LS 5 w v n A):∃ p cap,v=.slice p n cap∧n<9223372036854775808∧(0<n→∃ sb so,p=some ⟨sb,so,none⟩∧sb<w.heap.size∧∀ k,k<n→∀ j x,(A k)[j]?=some x→w.cell? ⟨sb,so+k*5+j,none⟩=some x):=by
 obtain⟨p,cap,h1,h2,h3,h4⟩:=h;refine⟨p,cap,h1,h3,fun h0=>?_⟩;obtain⟨sb,so,e,hl,hc⟩:=h4 h0;exact⟨sb,so,e,hl,fun k hk j x hx=>hc k hk j x (by simpa using hx)⟩
theorem Zid (p:Zw)(fv ev:Value)(A E:Nat→Array Value)(w:World)(hP:Ov w fv ev p A E):Calls Tryz.prog 75 #[.agg #[fv,ev]] w fun e w'=>e=.returned (.bool (Ld p))∧Below w.heap.size w w':=by
 have hx:=Gk w (.cells #[fv,ev] 25 (0,0));have HP:=Za (hP.below hx.2.1);have hl4:p.funcs.length<9223372036854775808:=by obtain⟨_,_,_,_,h,_⟩:=hP.fs; exact h
 have hl5:p.externs.length<9223372036854775808:=by obtain⟨_,_,_,_,h,_⟩:=hP.es; exact h
 obtain⟨pf,cf,rfl⟩:=hP.fs.shape;obtain⟨pe,ce,rfl⟩:=hP.es.shape;have HX:=Za hx;clear hx hP;go_enter Tryz.func75,Tryz.ntmps75
 go_wp2_with fail
 refine(Xz p.funcs.length 1 8 _).mono ?_;rintro e w2 ⟨rfl,h2⟩;subst w2;cases h1:Gm p.funcs.length 1 8 with
 | false =>
  have hz:=Za (show Ld p=false by unfold Ld; rw [h1]; rfl);clear h1;go_wp2;go_ret;exact⟨by rw [J hz]; rfl,(J HX).2.1⟩
 | true =>
  have H1:=Za h1;clear h1;by_cases h4:p.externs.length≤4
  ·
   have HCB:=Za (show Ld p=upB p.externs.length (fun k=>Rn (p.externs.getD k ([],0))) by unfold Ld; rw [J H1]; simp [h4]);go_wp2_with fail
   generalize World.alloc w _=W at HP HX ⊢;go_loopw [19] (fun j w'=>∃ k:Nat,j=.int .i64 k∧k≤p.externs.length∧Below W.heap.size W w'∧∀ q,q<k→Rn (p.externs.getD q ([],0))=true) (fun j _=>p.externs.length-(intOf j).toNat)
   case atStart=>exact⟨0,rfl,by omega,Below.refl _ _,fun q hq=>by omega⟩
   case round =>
    obtain⟨k,rfl,hk,hbw,hno⟩:=hrel;have HNO:=Za hno;clear hno;have hws:=hbw.size;have hWs:=(J HX).2.2;by_cases hk2:k<p.externs.length
    ·
     obtain⟨p',cap',he,-,hcc⟩:=(J HP).es.twos;injection he with e1 e2 e3;subst e1 e3;obtain⟨sb,so,rfl,hslt,hc⟩:=hcc (by omega);have hsc:=(J HP).eeach k hk2;have hgd:p.externs[k]=p.externs.getD k ([],0):=by simp [List.getD,hk2]
     rw [hgd] at hsc;have HBAD:=Za (fun hb:Rn (p.externs.getD k ([],0))=false=>show Ld p=false by rw [J HCB]; exact Lc hk2 hb);have HNX:=Za (fun hb:Rn (p.externs.getD k ([],0))=true=>Gi (q:=fun q=>Rn (p.externs.getD q ([],0))) (J HNO) hb);generalize p.externs.getD k ([],0)=s at hsc HBAD HNX;obtain⟨lv,hE,hli⟩:=hsc;have HLI:=Za hli;obtain⟨pl,cl,rfl⟩:=hli.shape;have hck:=hc k hk2;rw [hE] at hck;have k0:=(hbw.cell hslt).trans (hck 0 _ rfl);have k1:=(hbw.cell hslt).trans (hck 1 _ rfl);rw [Nat.add_zero] at k0;have HBW:=Za hbw;clear hck hc hcc hE hgd hli hbw e2;go_wp2_with fail
     have hy:=Gk wr (.cells #[.slice pl s.1.length cl,.int .i64 s.2] 59 (0,0));have hbU:=Zd (J HBW) hy.2.1 hws;refine(Zfb _ s.1 s.2 _ ((J HLI).below hbU)).mono ?_;rintro e w3 ⟨rfl,hb3⟩;have HU:=Za (Zd hbU hb3 hbU.size);clear hb3 hbU hy k0 k1;rw [show((s.1,s.2):List Int×Int)=s from rfl];cases hsb:Rn s with
     | false =>
      have hz:=Za (J HBAD hsb);clear hsb;go_wp2;go_ret;exact⟨by rw [J hz]; rfl,Zd (J HX).2.1 (J HU) (by omega)⟩
     | true =>
      have hz:=Za (J HNX hsb);clear hsb;go_wp2;go_roundw
      case rel=>exact⟨k+1,by go_num,by omega,J HU,J hz⟩
      case measure=>simp [intOf]; omega
    ·
     have hz:=Za (show Ld p=true by rw [J HCB]; exact Md (fun q hq=>J HNO q (by omega)));obtain rfl:k=p.externs.length:=by omega
     have HBW:=Za hbw;clear hbw;go_wp2;go_ret;exact⟨by rw [J hz]; rfl,Zd (J HX).2.1 (J HBW) (by omega)⟩
  ·
   have hz:=Za (show Ld p=false by unfold Ld; simp [h4]);go_wp2;go_ret;exact⟨by rw [J hz]; rfl,(J HX).2.1⟩
theorem Zok (a b c:Int)(w:World):Calls Tryz.prog 77 #[.int .i64 a,.int .i64 b,.int .i64 c] w fun e w'=>e=.returned (.iface 114 (.pointer (some ⟨w.heap.size,0,none⟩)))∧w'=w.alloc (.cells #[.iface 111 (.int .i64 5),.int .i64 a,.int .i64 b,.int .i64 c] 117 (0,0)):=by
 go_enter Tryz.func77,Tryz.ntmps77
 go_wp2;go_ret;exact⟨rfl,rfl⟩
theorem Li.setRow {w:World}{T:Nat}{cs:Array Value}{v:Value}{ns:List Int}(h:Li w v ns)(hne:∀ sb so n c,v=.slice (some ⟨sb,so,none⟩) n c→0<ns.length→sb≠T):Li (w.setRow T cs) v ns:=by
 obtain⟨p,cap,h1,h2,h3,h4⟩:=h;refine⟨p,cap,h1,h2,h3,fun h0=>?_⟩;obtain⟨sb,so,e,hc⟩:=h4 h0;subst e;have hn:=hne sb so _ _ h1 h0;refine⟨sb,so,rfl,fun i hi=>?_⟩;rw [← hc i hi];unfold World.cell?;simp only [setRow_other w T sb cs hn]
theorem Ub {V:World}{B n size g:Nat}{e t:TypeId}{v:Value}{xs:List Value}{cs:Array Value}{fr:Nat×Nat}(h:V.ownsRow B e size v n xs)(hr:V.heap[g]?=some (.cells cs t fr))(hne:e≠t):v.ownBlock≠some g:=fun hv=>by
 rcases h.2 with⟨e1,-⟩ | ⟨g1,c1,cur1,e1,-,r1,-⟩
 ·
  rw [e1] at hv; cases hv
 ·
  rw [e1] at hv;injection hv with hv;simp only at hv;rw [hv,hr] at r1;injection r1 with r1;injection r1 with _ r1 _;exact hne r1.symm
theorem Lb {V V':World}{B n size:Nat}{e:TypeId}{v:Value}{xs:List Value}(h:V.ownsRow B e size v n xs)(hk:∀ g,v.ownBlock=some g→V'.heap[g]?=V.heap[g]?):V'.ownsRow B e size v n xs:=by
 obtain⟨h1,h2 | ⟨g,cap,cur,e1,e2,e3,e4⟩⟩:=h
 ·
  exact⟨h1,Or.inl h2⟩
 ·
  exact⟨h1,Or.inr ⟨g,cap,cur,e1,e2,(hk g (by rw [e1]; rfl)).trans e3,e4⟩⟩
theorem Zde (lo hi:Nat)(w:World):OnB lo hi w w:=⟨rfl,rfl,rfl,Nat.le_refl _,fun _ _ _=>rfl⟩
theorem Jq {lo hi:Nat}{a b c:World}(h:OnB lo hi a b)(k:OnB lo hi b c):OnB lo hi a c:=⟨k.os.trans h.os,k.tape.trans h.tape,k.output.trans h.output,Nat.le_trans h.size k.size,fun q hq hd=>(k.oth q (Nat.lt_of_lt_of_le hq h.size) hd).trans (h.oth q hq hd)⟩
theorem Cf {lo hi g:Nat}(w:World)(j:Nat)(v:Value)(h1:lo≤g)(h2:g<hi):OnB lo hi w (w.setCell ⟨g,j,none⟩ v):=⟨rfl,rfl,rfl,by simp,fun q _ hd=>heap_setCell_other _ _ _ _ (by show q≠g; omega)⟩
theorem Lv {lo hi:Nat}{w w':World}(h:Below w.heap.size w w'):OnB lo hi w w':=⟨h.os,h.tape,h.output,h.size,fun q hq _=>h.block q hq⟩
theorem Zdf (w:World)(d a:Nat)(v:Int):∀ k,(stw w d a v k).os=w.os∧(stw w d a v k).tape=w.tape∧(stw w d a v k).output=w.output
 | 0=>⟨rfl,rfl,rfl⟩
 | k+1=>Zdf w d a v k
theorem Zzl {lo hi d:Nat}(w:World)(a k:Nat)(v:Int)(h1:lo≤d)(h2:d<hi):OnB lo hi w (stw w d a v k):=⟨(Zdf w d a v k).1,(Zdf w d a v k).2.1,(Zdf w d a v k).2.2,Nat.le_of_eq (Zaq w d a v k).symm,fun q _ hd=>Zar w d a v q (by omega) k⟩
section
variable {w0 V V':World} {x:Nl} {q lo hi lg bc sc oc:Nat} {bp sp op:Option Addr} {gs:List Nat} {B:Nat→Value}
theorem Dm (h:Na w0 V x q lo hi lg bp sp op bc sc oc gs B)(hk:∀ g,lo≤g→g<hi→V'.heap[g]?=V.heap[g]?)(hz:V.heap.size≤V'.heap.size):Na w0 V' x q lo hi lg bp sp op bc sc oc gs B :=
 ⟨h.ql,h.qh,h.gl,h.gh,h.gq,Nat.le_trans h.hs hz,(hk q h.ql h.qh).trans h.row,(hk lg h.gl h.gh).trans h.loc,Lb h.slo (fun g e=>hk g (World.ownsRow.lt h.slo g e).1 (h.sb g e)),h.sb,h.len,fun k hk2=>⟨(hk _ (h.each k hk2).2.1 (h.each k hk2).2.2).trans (h.each k hk2).1,(h.each k hk2).2⟩,h.inj,h.bls,h.blk,h.ous⟩
theorem Lk (h:Na w0 V x q lo hi lg bp sp op bc sc oc gs B){g:Nat}{t:TypeId}{cs:Array Value}(hr:V.heap[g]?=some (.cells cs t (0,0)))(ht:286≠t):∀ b,(Value.slice sp x.s.length sc).ownBlock=some b→b≠g:=fun b e hb=>Ub h.slo hr ht (by rw [e,hb])
theorem Gx {V:World}{a b:Nat}{s t:TypeId}{c d:Array Value}(h:V.heap[a]?=some (.cells c s (0,0)))(k:V.heap[b]?=some (.cells d t (0,0)))(hne:s≠t):a≠b:=fun e=>by
 subst e;rw [h] at k;injection k with k;injection k with _ k _;exact hne k
theorem Ybn (h:Na w0 V x q lo hi lg bp sp op bc sc oc gs B){j:Nat}{v:Value}{y:Nl}(hv:y.v=x.v)(hs:y.s=x.s)(ho:y.o=x.o)(hf:y.fn=x.fn)
 (hrow:(V.setCell ⟨q,j,none⟩ v).heap[q]?=some (.cells #[.slice bp x.fn.blocks.length bc,.int .i64 y.b,.int .i64 y.i,.slice (some ⟨lg,0,none⟩) x.v.length x.v.length,.slice sp x.s.length sc,.slice op x.o.length oc] 309 (0,0))):Na w0 (V.setCell ⟨q,j,none⟩ v) y q lo hi lg bp sp op bc sc oc gs B:=by
 obtain⟨yf,yb,yi,yv,ys,yo⟩:=y;simp only at hv hs ho hf;subst hv hs ho hf;have ot:∀ g,g≠q→(V.setCell ⟨q,j,none⟩ v).heap[g]?=V.heap[g]?:=fun g hg=>heap_setCell_other _ _ _ _ hg;exact⟨h.ql,h.qh,h.gl,h.gh,h.gq,by simpa using h.hs,hrow,(ot _ h.gq).trans h.loc,Lb h.slo (fun g e=>ot g (Lk h h.row (by decide) g e)),h.sb,h.len,fun k hk=>⟨(ot _ (Gx (h.each k hk).1 h.row (by decide))).trans (h.each k hk).1,(h.each k hk).2⟩,h.inj,h.bls,h.blk,h.ous⟩
theorem Yfy (h:Na w0 V x q lo hi lg bp sp op bc sc oc gs B)(n:Int):Na w0 (V.setCell ⟨q,1,none⟩ (.int .i64 n)) { x with b:=n } q lo hi lg bp sp op bc sc oc gs B:=Ybn h rfl rfl rfl rfl (heap_setCell_same _ _ 1 _ _ _ h.row)
theorem Ybo (h:Na w0 V x q lo hi lg bp sp op bc sc oc gs B)(n:Int):Na w0 (V.setCell ⟨q,2,none⟩ (.int .i64 n)) { x with i:=n } q lo hi lg bp sp op bc sc oc gs B:=Ybn h rfl rfl rfl rfl (heap_setCell_same _ _ 2 _ _ _ h.row)
theorem Zfm (h:Na w0 V x q lo hi lg bp sp op bc sc oc gs B)(d:Nat)(n:Int):Na w0 (V.setCell ⟨lg,d,none⟩ (.int .u64 n)) { x with v:=x.v.set d n } q lo hi lg bp sp op bc sc oc gs B:=by
 have ot:∀ g,g≠lg→(V.setCell ⟨lg,d,none⟩ (.int .u64 n)).heap[g]?=V.heap[g]?:=fun g hg=>heap_setCell_other _ _ _ _ hg;refine⟨h.ql,h.qh,h.gl,h.gh,h.gq,by simpa using h.hs,?_,?_,Lb h.slo (fun g e=>ot g (Lk h h.loc (by decide) g e)),h.sb,h.len,fun k hk=>⟨(ot _ (Gx (h.each k hk).1 h.loc (by decide))).trans (h.each k hk).1,(h.each k hk).2⟩,h.inj,h.bls,h.blk,h.ous⟩
 ·
  rw [show({ x with v:=x.v.set d n }:Nl).v.length=x.v.length by simp];exact(ot _ (Ne.symm h.gq)).trans h.row
 ·
  have:=heap_setCell_same _ _ d _ _ (.int .u64 n) h.loc;rw [Yds] at this;exact this
theorem Zaf (ss:List (List Int))(k:Nat)(l:List Int)(h:l.length=(ss.getD k []).length):(ss.set k l).map List.length=ss.map List.length:=by
 apply List.ext_getElem?
 intro j;rw [List.getElem?_map,List.getElem?_map,List.getElem?_set];by_cases hj:k=j
 ·
  subst hj;rw [if_pos rfl];by_cases hk:k<ss.length
  ·
   rw [if_pos hk,List.getElem?_eq_getElem hk];simp only [Option.map_some,h,List.getD,List.getElem?_eq_getElem hk,Option.getD_some]
  ·
   rw [if_neg hk,List.getElem?_eq_none (by omega)]
 ·
  rw [if_neg hj]
theorem Zjj (ss:List (List Int))(k j:Nat)(l:List Int)(hk:k<ss.length):(ss.set k l).getD j []=if j=k then l else ss.getD j []:=by
 by_cases hj:j=k
 ·
  subst hj;simp [List.getD,hk]
 ·
  simp [List.getD,Ne.symm hj,hj]
theorem Ybp (h:Na w0 V x q lo hi lg bp sp op bc sc oc gs B){j k:Nat}(hj:j<gs.length)(hk:k<gs.length)(hne:j≠k):gs.getD j 0≠gs.getD k 0:=by
 rcases Nat.lt_or_gt_of_ne hne with h1 | h1
 ·
  have:=h.inj j k h1 hk; omega
 ·
  have:=h.inj k j h1 hj; omega
theorem Ydt (h:Na w0 V x q lo hi lg bp sp op bc sc oc gs B)(k:Nat)(hk:k<x.s.length)(a kk:Nat)(v:Int):Na w0 (stw V (gs.getD k 0) a v kk) { x with s:=x.s.set k (stB (x.s.getD k []) a kk v) } q lo hi lg bp sp op bc sc oc gs B:=by
 have hr:=(h.each k hk).1;have ot:∀ g,g≠gs.getD k 0→(stw V (gs.getD k 0) a v kk).heap[g]?=V.heap[g]?:=fun g hg=>Zar V _ a v g hg kk;have hl:({ x with s:=x.s.set k (stB (x.s.getD k []) a kk v) }:Nl).s.length=x.s.length:=by simp
 refine⟨h.ql,h.qh,h.gl,h.gh,h.gq,by rw [Zaq]; exact h.hs,?_,(ot _ (Gx h.loc hr (by decide))).trans h.loc,?_,by rw [hl]; exact h.sb,by rw [hl]; exact h.len,fun j hj=>?_,h.inj,h.bls,h.blk,h.ous⟩
 ·
  rw [hl];exact(ot _ (Gx h.row hr (by decide))).trans h.row
 ·
  rw [hl,show({ x with s:=x.s.set k (stB (x.s.getD k []) a kk v) }:Nl).s.map List.length=x.s.map List.length from Zaf _ _ _ (Zgq _ _ _ _)];exact Lb h.slo (fun g e=>ot g (Lk h hr (by decide) g e))
 ·
  rw [hl] at hj;show(stw V (gs.getD k 0) a v kk).heap[gs.getD j 0]?=some (.cells (yC ((x.s.set k (stB (x.s.getD k []) a kk v)).getD j [])).toArray _ _)∧_;rw [Zjj _ _ _ _ hk];by_cases he:j=k
  ·
   subst he;rw [if_pos rfl];exact⟨Zgr V _ a v _ hr kk,(h.each j hj).2⟩
  ·
   rw [if_neg he];exact⟨(ot _ (Ybp h (by rw [h.len]; exact hj) (by rw [h.len]; exact hk) he)).trans (h.each j hj).1,(h.each j hj).2⟩
theorem Yv (h:Na w0 V x q lo hi lg bp sp op bc sc oc gs B)(hb:Below V.heap.size V V'):Na w0 V' x q lo hi lg bp sp op bc sc oc gs B :=
 ⟨h.ql,h.qh,h.gl,h.gh,h.gq,Nat.le_trans h.hs hb.size,(hb.block q (Zk h.row)).trans h.row,(hb.block lg (Zk h.loc)).trans h.loc,Lb h.slo (fun g e=>hb.block g (World.ownsRow.lt h.slo g e).2),h.sb,h.len,fun k hk=>⟨(hb.block _ (Zk (h.each k hk).1)).trans (h.each k hk).1,(h.each k hk).2⟩,h.inj,h.bls,h.blk,h.ous⟩
end
set_option maxHeartbeats 4000000
set_option maxRecDepth 100000
theorem Zzm {w0 V:World}{x:Nl}{q lo hi lg bc sc oc:Nat}{bp sp op:Option Addr}{gs:List Nat}{B:Nat→Value}(h:Na w0 V x q lo hi lg bp sp op bc sc oc gs B){g:Nat}(hg:hi≤g)(cs:Array Value):Na w0 (V.setRow g cs) x q lo hi lg bp sp op bc sc oc gs B :=
 Dm h (fun b _ h2=>setRow_other _ _ _ _ (by omega)) (by simp [World.setRow])
theorem Zmv (w0:World)(x:Nl)(q lo hi lg:Nat)(bp sp op:Option Addr)(bc sc oc:Nat)(gs:List Nat)(B:Nat→Value)(n:Int)(w:World)(h:Na w0 w x q lo hi lg bp sp op bc sc oc gs B) :
 Calls Tryz.prog 170 #[.pointer (some ⟨q,0,none⟩),.int .i64 n] w fun e w'=>(∃ v,e=.returned v)∧Na w0 w' { x with b:=n,i:=0 } q lo hi lg bp sp op bc sc oc gs B∧OnB lo hi w w':=by
 have c1:=cR h.row 1;have z1:=frozen_of_row _ _ 1 _ _ h.row;have h1:=Yfy h n;have c2:=cR h1.row 2;have z2:=frozen_of_row _ _ 2 _ _ h1.row;have HX:=Za (show Na w0 ((w.setCell ⟨q,1,none⟩ (.int .i64 n)).setCell ⟨q,2,none⟩ (.int .i64 0)) { x with b:=n,i:=0 } q lo hi lg bp sp op bc sc oc gs B from Ybo h1 0);have HO:=Za (Jq (Cf (lo:=lo) (hi:=hi) w 1 (.int .i64 n) h.ql h.qh) (Cf _ 2 (.int .i64 0) h.ql h.qh));clear h h1;go_enter Tryz.func170,Tryz.ntmps170
 go_wp2;go_returns;exact⟨⟨_,rfl⟩,J HX,J HO⟩
theorem Ydu (w0:World)(x:Nl)(q lo hi lg:Nat)(bp sp op:Option Addr)(bc sc oc:Nat)(gs:List Nat)(B:Nat→Value)(i:Zq)(xap xop:Option Addr)(xan xac xon xoc:Nat)(d:Nat)(t:Int)(w:World)(h:Na w0 w x q lo hi lg bp sp op bc sc oc gs B)(hd:i.d=d)(hdl:d<x.v.length)(ht:t=if x.v.getD d 0=0 then i.bb else i.a) :
 Calls Tryz.prog 171 #[.pointer (some ⟨q,0,none⟩),.agg #[.int .i64 i.op,.int .i64 i.d,.int .i64 i.a,.int .i64 i.bb,.int .u64 i.n,.int .i64 i.f,.slice xap xan xac,.slice xop xon xoc]] w fun e w'=>(∃ v,e=.returned v)∧Na w0 w' { x with b:=t,i:=0 } q lo hi lg bp sp op bc sc oc gs B∧OnB lo hi w w':=by
 obtain⟨r0,hb,hz⟩:=Gk w (.cells #[.int .i64 i.op,.int .i64 i.d,.int .i64 i.a,.int .i64 i.bb,.int .u64 i.n,.int .i64 i.f,.slice xap xan xac,.slice xop xon xoc] 89 (0,0));have hW:=Yv h hb;have HO:=Za (Lv (lo:=lo) (hi:=hi) hb);have HR:=Za r0;have hlt:=Zk r0;have HW:=Za hW;have HD:=Za hd;have HTT:=Za ht;clear h r0 hb hW hd ht;go_enter Tryz.func171,Tryz.ntmps171
 go_upto_region 1 with fail
 generalize World.alloc w _=W at HW HO HR hlt hz ⊢;have c3:=cR (J HW).row 3;have i1:W.cell? ⟨w.heap.size,1,none⟩=some (.int .i64 (d:Int)):=by rw [← J HD]; exact(cR (J HR) 1)
 have v0:W.cell? ⟨lg,d,none⟩=some (.int .u64 (x.v.getD d 0)):=(Zr (J HW).loc d).trans (by simp [uC,List.getD,hdl]);by_cases hv:x.v.getD d 0=0
 ·
  have HIF:=Za (show t=i.bb by rw [J HTT,if_pos hv]);rw [hv] at v0;go_quiet (fail)
  generalize hX:World.drewN W _=U;have hBU:Below W.heap.size W U:=by rw [← hX]; exact Lw (Below.refl _ _) _
  have i3:=cR ((hBU.block _ hlt).trans (J HR)) 3;have HC:=Za (Zmv w0 x q lo hi lg bp sp op bc sc oc gs B i.bb U (Yv (J HW) hBU));have HO2:=Za (Jq (J HO) (Lv hBU));clear hX hBU c3 i1 v0 hv;go_wp2_with fail
  refine(J HC).mono ?_;rintro e w2 ⟨⟨v,rfl⟩,hF,ho⟩;have HF:=Za hF;have HO3:=Za (Jq (J HO2) ho);clear hF ho HC;go_wp2;go_returns;exact⟨⟨_,rfl⟩,by rw [J HIF]; exact J HF,J HO3⟩
 ·
  have hz0:(x.v.getD d 0 != 0)=true:=by simpa using hv
  have HIF:=Za (show t=i.a by rw [J HTT,if_neg hv]);obtain⟨y,hy⟩:∃ y,y=x.v.getD d 0:=⟨_,rfl⟩;rw [← hy] at v0 hz0;clear hy;clear hv;go_quiet (fail)
  generalize hX:World.drewN W _=U;have hBU:Below W.heap.size W U:=by rw [← hX]; exact Lw (Below.refl _ _) _
  have i2:=cR ((hBU.block _ hlt).trans (J HR)) 2;have HC:=Za (Zmv w0 x q lo hi lg bp sp op bc sc oc gs B i.a U (Yv (J HW) hBU));have HO2:=Za (Jq (J HO) (Lv hBU));clear hX hBU c3 i1 v0;go_wp2_with fail
  refine(J HC).mono ?_;rintro e w2 ⟨⟨v,rfl⟩,hF,ho⟩;have HF:=Za hF;have HO3:=Za (Jq (J HO2) ho);clear hF ho HC;go_wp2;go_returns;exact⟨⟨_,rfl⟩,by rw [J HIF]; exact J HF,J HO3⟩
set_option maxHeartbeats 4000000
set_option maxRecDepth 100000
theorem Gt {α:Type}(l:List α)(d:α)(k:Nat)(h:k<l.length):l.getD k d=l[k]:=by simp [List.getD,h]
theorem Tryz.infInsI:(Tryz.prog.info? 89).map (·.size)=some 8:=by kernel_rfl
def FtS (q bb bo ib io:Nat)(R:Array Value)(bv:Value)(I:Array Value)(V:World):Prop :=
 V.heap[q]?=some (.cells R 309 (0,0))∧V.cell? ⟨bb,bo,none⟩=some bv∧∀ j y,I[j]?=some y→V.cell? ⟨ib,io+j,none⟩=some y
theorem Ry {q bb bo ib io:Nat}{R I:Array Value}{bv:Value}{V V':World}(h:FtS q bb bo ib io R bv I V)(hb:Below V.heap.size V V'):FtS q bb bo ib io R bv I V':=by
 obtain⟨h0,h1,h2⟩:=h;exact⟨(hb.block _ (Zk h0)).trans h0,(hb.cell (World.block_lt_of_cell? V _ h1)).trans h1,fun j y hy=>(hb.cell (World.block_lt_of_cell? V _ (h2 j y hy))).trans (h2 j y hy)⟩
theorem Zzn (w0:World)(x:Nl)(q lo hi lg:Nat)(bp sp op:Option Addr)(bc sc oc:Nat)(gs:List Nat)(B:Nat→Value)(bn nx:Nat)(w:World)(h:Na w0 w x q lo hi lg bp sp op bc sc oc gs B)(hbw:Below w0.heap.size w0 w)(hb:x.b=bn)(hi_:x.i=nx)(hbl:bn<x.fn.blocks.length)(hnl:nx<(x.fn.blocks.getD bn []).length)(hsm:x.fn.blocks.length≤12)(hsk:(x.fn.blocks.getD bn []).length≤24) :
 Calls Tryz.prog 165 #[.pointer (some ⟨q,0,none⟩)] w fun e w'=>∃ xap xac xop xoc,e=.returned (.agg #[.int .i64 (Yg x).op,.int .i64 (Yg x).d,.int .i64 (Yg x).a,.int .i64 (Yg x).bb,.int .u64 (Yg x).n,.int .i64 (Yg x).f,.slice xap (Yg x).args.length xac,.slice xop (Yg x).outs.length xoc])∧LS 2 w0 (.slice xap (Yg x).args.length xac) (Yg x).args.length (fun k=>Me ((Yg x).args.getD k (0,0)))∧Li w0 (.slice xop (Yg x).outs.length xoc) (Yg x).outs∧Na w0 w' (Yd x) q lo hi lg bp sp op bc sc oc gs B∧OnB lo hi w w':=by
 have hins:Yg x=(x.fn.blocks.getD bn []).getD nx Dd:=by unfold Yg; rw [hb,hi_]; rfl
 have hnxt:Yd x={ x with i:=(nx:Int)+1 }:=by unfold Yd; rw [hi_]
 obtain⟨bp',bcap,hbe,-,-,hbc⟩:=h.bls.ones;injection hbe with e1 e2 e3;subst e1 e3;obtain⟨bb,bo,hbp,hbcell⟩:=hbc (by omega);subst hbp;obtain⟨IA,hIL,hIE⟩:=h.blk bn hbl;have hge:x.fn.blocks.getD bn []=x.fn.blocks[bn]:=Gt _ _ _ hbl;rw [hge] at hnl hins hsk;obtain⟨ip,ic,hBk⟩:=hIL.shape;rw [hBk] at hIL;obtain⟨ip',ic',hie,-,-,hicell⟩:=hIL;injection hie with f1 f2 f3;subst f1 f3;obtain⟨isb,iso,hip,-,hic2⟩:=hicell (by omega);subst hip;have hrg:=hic2 nx hnl;obtain⟨av,ov,hIA,hxa,hxo⟩:=hIE nx hnl;have hgi:(x.fn.blocks[bn]).getD nx Dd=(x.fn.blocks[bn])[nx]:=Gt _ _ _ hnl;rw [hgi] at hins;have hc1:=hbcell bn hbl;rw [hBk] at hc1;generalize hbk:x.fn.blocks[bn]=bk at *;generalize hii:bk[nx]=i at *;obtain⟨xap,xac,rfl⟩:=hxa.shape;obtain⟨xop,xoc,rfl⟩:=hxo.shape;rw [hIA] at hrg;have hrow:=h.row;rw [hb,hi_] at hrow;have HS0:=Za (show FtS q bb (bo+bn) isb (iso+nx*8) #[.slice (some ⟨bb,bo,none⟩) x.fn.blocks.length bc,.int .i64 (bn:Int),.int .i64 (nx:Int),.slice (some ⟨lg,0,none⟩) x.v.length x.v.length,.slice sp x.s.length sc,.slice op x.o.length oc] (.slice (some ⟨isb,iso,none⟩) bk.length ic) #[.int .i64 i.op,.int .i64 i.d,.int .i64 i.a,.int .i64 i.bb,.int .u64 i.n,.int .i64 i.f,.slice xap i.args.length xac,.slice xop i.outs.length xoc] w from⟨hrow,(hbw.cell (World.block_lt_of_cell? _ _ hc1)).trans hc1,fun j y hy=>by
  have:=hrg j y (by simpa using hy);exact(hbw.cell (World.block_lt_of_cell? _ _ this)).trans this⟩)
 have HXA:=Za hxa;have HXO:=Za hxo;have H:=Za h;have HNX:=Za hnxt;have hqw:=Zk h.row;rw [hins];obtain⟨r0,hb0,hz0⟩:=Gk w (.cells #[.int .i64 0,.int .i64 0,.int .i64 0,.int .i64 0,.int .u64 0,.int .i64 0,.slice none 0 0,.slice none 0 0] 89 (0,0));have HR0:=Za r0;have HB0:=Za hb0;clear h hbw hb hi_ hins hnxt hbc hbcell hIE hge hBk hicell hic2 hrg hIA hxa hxo hgi hc1 hrow hbk hii r0 hb0 e2 f2;go_enter Tryz.func165,Tryz.ntmps165
 go_upto_region 1 with fail
 generalize World.alloc w _=W at HR0 HB0 hz0 ⊢;have HZ0:=Za hz0;clear hz0;have HSW:=Za (Ry (Ry (J HS0) (J HB0)) (Below.refl _ _).drew);refine wp_region_held_drew (S:=FtS q bb (bo+bn) isb (iso+nx*8) #[.slice (some ⟨bb,bo,none⟩) x.fn.blocks.length bc,.int .i64 (bn:Int),.int .i64 (nx:Int),.slice (some ⟨lg,0,none⟩) x.v.length x.v.length,.slice sp x.s.length sc,.slice op x.o.length oc] (.slice (some ⟨isb,iso,none⟩) bk.length ic) #[.int .i64 i.op,.int .i64 i.d,.int .i64 i.a,.int .i64 i.bb,.int .u64 i.n,.int .i64 i.f,.slice xap i.args.length xac,.slice xop i.outs.length xoc]) (by kernel_rfl) (J HSW) (fun hHeld=>?_);refine wpAnyH_take (i:=0) (v:=?v0) rfl (by kernel_rfl) (by kernel_rfl) (by kernel_rfl) (fun _ _ _ h=>h) (Or.inl ⟨by rfl,?hy0⟩) (by assumption) ?_;case hy0 =>
  intro V hV;obtain⟨g0,g1,g2⟩:=hV;clear g0 g1 g2;go_simp;all_goals (with_reducible rfl)
 simp only [Act.put,zA,zB,zC,zD,zE];refine wpAnyH_take (i:=1) (v:=?v1) rfl (by kernel_rfl) (by kernel_rfl) (by kernel_rfl) (fun _ _ _ h=>h) (Or.inl ⟨by rfl,?hy1⟩) (by assumption) ?_;case hy1 =>
  intro V hV;obtain⟨g0,g1,g2⟩:=hV;clear g0 g1 g2;go_simp;all_goals (with_reducible rfl)
 simp only [Act.put,zA,zB,zC,zD,zE,zF];refine wpAnyH_take (i:=2) (v:=?v2) rfl (by kernel_rfl) (by kernel_rfl) (by kernel_rfl) (fun _ _ _ h=>h) (Or.inl ⟨by rfl,?hy2⟩) (by assumption) ?_;case hy2 =>
  intro V hV;obtain⟨g0,g1,g2⟩:=hV;clear g0 g1 g2;go_simp;all_goals (with_reducible rfl)
 simp only [Act.put,zA,zB,zC,zD,zE,zF];refine wpAnyH_take (i:=3) (v:=?v3) rfl (by kernel_rfl) (by kernel_rfl) (by kernel_rfl) (fun _ _ _ h=>h) (Or.inl ⟨by rfl,?hy3⟩) (by assumption) ?_;case hy3 =>
  intro V hV;obtain⟨g0,g1,g2⟩:=hV;have c0:=cR g0 0;clear g0 g1 g2;go_simp;all_goals (with_reducible rfl)
 simp only [Act.put,zA,zB,zC,zD,zE,zF];refine wpAnyH_take (i:=4) (v:=?v4) rfl (by kernel_rfl) (by kernel_rfl) (by kernel_rfl) (fun _ _ _ h=>h) (Or.inl ⟨by rfl,?hy4⟩) (by assumption) ?_;case hy4 =>
  intro V hV;obtain⟨g0,g1,g2⟩:=hV;clear g0 g1 g2;go_simp;all_goals (with_reducible rfl)
 simp only [Act.put,zA,zB,zC,zD,zE,zF];refine wpAnyH_take (i:=5) (v:=?v5) rfl (by kernel_rfl) (by kernel_rfl) (by kernel_rfl) (fun _ _ _ h=>h) (Or.inl ⟨by rfl,?hy5⟩) (by assumption) ?_;case hy5 =>
  intro V hV;obtain⟨g0,g1,g2⟩:=hV;clear g0 g1 g2;go_simp;all_goals (with_reducible rfl)
 simp only [Act.put,zA,zB,zC,zD,zE,zF];refine wpAnyH_take (i:=6) (v:=?v6) rfl (by kernel_rfl) (by kernel_rfl) (by kernel_rfl) (fun _ _ _ h=>h) (Or.inl ⟨by rfl,?hy6⟩) (by assumption) ?_;case hy6 =>
  intro V hV;obtain⟨g0,g1,g2⟩:=hV;clear g0 g1 g2;go_simp;all_goals (with_reducible rfl)
 simp only [Act.put,zA,zB,zC,zD,zE,zF];refine wpAnyH_take (i:=7) (v:=?v7) rfl (by kernel_rfl) (by kernel_rfl) (by kernel_rfl) (fun _ _ _ h=>h) (Or.inl ⟨by rfl,?hy7⟩) (by assumption) ?_;case hy7 =>
  intro V hV;obtain⟨g0,g1,g2⟩:=hV;have c1:=cR g0 1;clear g0 g1 g2;go_simp;all_goals (with_reducible rfl)
 simp only [Act.put,zA,zB,zC,zD,zE,zF];refine wpAnyH_take (i:=8) (v:=?v8) rfl (by kernel_rfl) (by kernel_rfl) (by kernel_rfl) (fun _ _ _ h=>h) (Or.inl ⟨by rfl,?hy8⟩) (by assumption) ?_;case hy8 =>
  intro V hV;obtain⟨g0,g1,g2⟩:=hV;clear g0 g1 g2;go_simp;all_goals (with_reducible rfl)
 simp only [Act.put,zA,zB,zC,zD,zE,zF];refine wpAnyH_take (i:=9) (v:=?v9) rfl (by kernel_rfl) (by kernel_rfl) (by kernel_rfl) (fun _ _ _ h=>h) (Or.inl ⟨by rfl,?hy9⟩) (by assumption) ?_;case hy9 =>
  intro V hV;obtain⟨g0,g1,g2⟩:=hV;have d:=g1;clear g0 g1 g2;go_simp;all_goals (with_reducible rfl)
 simp only [Act.put,zA,zB,zC,zD,zE,zF];refine wpAnyH_take (i:=10) (v:=?v10) rfl (by kernel_rfl) (by kernel_rfl) (by kernel_rfl) (fun _ _ _ h=>h) (Or.inl ⟨by rfl,?hy10⟩) (by assumption) ?_;case hy10 =>
  intro V hV;obtain⟨g0,g1,g2⟩:=hV;clear g0 g1 g2;go_simp;all_goals (with_reducible rfl)
 simp only [Act.put,zA,zB,zC,zD,zE,zF];refine wpAnyH_take (i:=11) (v:=?v11) rfl (by kernel_rfl) (by kernel_rfl) (by kernel_rfl) (fun _ _ _ h=>h) (Or.inl ⟨by rfl,?hy11⟩) (by assumption) ?_;case hy11 =>
  intro V hV;obtain⟨g0,g1,g2⟩:=hV;clear g0 g1 g2;go_simp;all_goals (with_reducible rfl)
 simp only [Act.put,zA,zB,zC,zD,zE,zF];refine wpAnyH_take (i:=12) (v:=?v12) rfl (by kernel_rfl) (by kernel_rfl) (by kernel_rfl) (fun _ _ _ h=>h) (Or.inl ⟨by rfl,?hy12⟩) (by assumption) ?_;case hy12 =>
  intro V hV;obtain⟨g0,g1,g2⟩:=hV;clear g0 g1 g2;go_simp;all_goals (with_reducible rfl)
 simp only [Act.put,zA,zB,zC,zD,zE,zF];refine wpAnyH_take (i:=13) (v:=?v13) rfl (by kernel_rfl) (by kernel_rfl) (by kernel_rfl) (fun _ _ _ h=>h) (Or.inl ⟨by rfl,?hy13⟩) (by assumption) ?_;case hy13 =>
  intro V hV;obtain⟨g0,g1,g2⟩:=hV;have c2:=cR g0 2;clear g0 g1 g2;go_simp;all_goals (with_reducible rfl)
 simp only [Act.put,zA,zB,zC,zD,zE,zF];refine wpAnyH_take (i:=14) (v:=?v14) rfl (by kernel_rfl) (by kernel_rfl) (by kernel_rfl) (fun _ _ _ h=>h) (Or.inl ⟨by rfl,?hy14⟩) (by assumption) ?_;case hy14 =>
  intro V hV;obtain⟨g0,g1,g2⟩:=hV;clear g0 g1 g2;go_simp;all_goals (with_reducible rfl)
 simp only [Act.put,zA,zB,zC,zD,zE,zF];refine wpAnyH_take (i:=15) (v:=?v15) rfl (by kernel_rfl) (by kernel_rfl) (by kernel_rfl) (fun _ _ _ h=>h) (Or.inl ⟨by rfl,?hy15⟩) (by assumption) ?_;case hy15 =>
  intro V hV;obtain⟨g0,g1,g2⟩:=hV;have c0:=g2 0 _ rfl;have c1:=g2 1 _ rfl;have c2:=g2 2 _ rfl;have c3:=g2 3 _ rfl;have c4:=g2 4 _ rfl;have c5:=g2 5 _ rfl;have c6:=g2 6 _ rfl;have c7:=g2 7 _ rfl;rw [Nat.add_zero] at c0;clear g0 g1 g2;go_simp;all_goals (with_reducible rfl)
 simp only [Act.put,zA,zB,zC,zD,zE,zF];refine tO 16 fun K hK=>?_;go_simp;obtain⟨r1,hb1,hz1⟩:=Gk W.drew (.cells #[.int .i64 0,.int .i64 0,.int .i64 0,.int .i64 0,.int .u64 0,.int .i64 0,.slice none 0 0,.slice none 0 0] 89 (0,0));have HR1:=Za r1;have HB1:=Za hb1;have hz1':(W.drew.alloc (.cells #[.int .i64 0,.int .i64 0,.int .i64 0,.int .i64 0,.int .u64 0,.int .i64 0,.slice none 0 0,.slice none 0 0] 89 (0,0))).heap.size=W.heap.size+1:=hz1;clear r1 hb1 hz1;refine kO hK (Ry (J HSW) (J HB1)) (fun hHeld2=>?_);clear hK K;refine tO 17 fun K hK=>?_;rw [if_pos (by rfl)];refine wp_store_row 89 _ _ rfl W.heap.size #[.int .i64 i.op,.int .i64 i.d,.int .i64 i.a,.int .i64 i.bb,.int .u64 i.n,.int .i64 i.f,.slice xap i.args.length xac,.slice xop i.outs.length xoc] rfl rfl 89 _ (J HR1) (Tryz.infInsI.trans rfl) rfl (by simp [Value.oneCell']) ?_;have HR2:=Za (show((W.alloc (.cells #[.int .i64 0,.int .i64 0,.int .i64 0,.int .i64 0,.int .u64 0,.int .i64 0,.slice none 0 0,.slice none 0 0] 89 (0,0))).drew.setRow W.heap.size #[.int .i64 i.op,.int .i64 i.d,.int .i64 i.a,.int .i64 i.bb,.int .u64 i.n,.int .i64 i.f,.slice xap i.args.length xac,.slice xop i.outs.length xoc]).heap[W.heap.size]?=some (.cells #[.int .i64 i.op,.int .i64 i.d,.int .i64 i.a,.int .i64 i.bb,.int .u64 i.n,.int .i64 i.f,.slice xap i.args.length xac,.slice xop i.outs.length xoc] 89 (0,0)) from setRow_heap _ _ _ #[.int .i64 i.op,.int .i64 i.d,.int .i64 i.a,.int .i64 i.bb,.int .u64 i.n,.int .i64 i.f,.slice xap i.args.length xac,.slice xop i.outs.length xoc] _ _ (J HR1))
 have HB2:=Za (show Below W.drew.heap.size W.drew ((W.alloc (.cells #[.int .i64 0,.int .i64 0,.int .i64 0,.int .i64 0,.int .u64 0,.int .i64 0,.slice none 0 0,.slice none 0 0] 89 (0,0))).drew.setRow W.heap.size #[.int .i64 i.op,.int .i64 i.d,.int .i64 i.a,.int .i64 i.bb,.int .u64 i.n,.int .i64 i.f,.slice xap i.args.length xac,.slice xop i.outs.length xoc]) from Zx (T:=W.drew.heap.size) (cs:=#[.int .i64 i.op,.int .i64 i.d,.int .i64 i.a,.int .i64 i.bb,.int .u64 i.n,.int .i64 i.f,.slice xap i.args.length xac,.slice xop i.outs.length xoc]) (J HB1) (Nat.le_refl _));refine hK.out _ _ (Ry (J HSW) (J HB2)) (fun hHeld2=>?_);clear hK K hHeld hHeld2;try simp only [Act.put]
 refine wpAnyH_done (by kernel_rfl) ?_ _;generalize World.setRow (World.drew (World.alloc W _)) _ _=V3 at HR2 HB2 ⊢;have hBW:Below W.heap.size W V3:=Zd (Below.refl W.heap.size W).drew (J HB2) (Nat.le_refl _);have hz0:=J HZ0;have hBw3:=Zd (J HB0) hBW (by omega);have hF3:=Yv (J H) hBw3;have c2:V3.cell? ⟨q,2,none⟩=some (.int .i64 (nx:Int)):=by have:=(Ry (J HSW) (J HB2)).1; exact(cR this 2)
 have z2:=frozen_of_row _ _ 2 _ _ hF3.row;have hRT:V3.heap[w.heap.size]?=some (.cells #[.int .i64 0,.int .i64 0,.int .i64 0,.int .i64 0,.int .u64 0,.int .i64 0,.slice none 0 0,.slice none 0 0] 89 (0,0)):=(hBW.block _ (by omega)).trans (J HR0);have hF4:=Ybo hF3 ((nx:Int)+1);rw [← J HNX] at hF4;have HF4:=Za hF4;have hqne:W.heap.size≠q:=by omega
 have hqn2:w.heap.size≠q:=by omega
 have hR4:=(heap_setCell_other V3 ⟨q,2,none⟩ W.heap.size (.int .i64 ((nx:Int)+1)) hqne).trans (J HR2);have hT4:=(heap_setCell_other V3 ⟨q,2,none⟩ w.heap.size (.int .i64 ((nx:Int)+1)) hqn2).trans hRT;have HO4:=Za (Jq (Lv (lo:=lo) (hi:=hi) hBw3) (Cf V3 2 (.int .i64 ((nx:Int)+1)) (J H).ql (J H).qh));have HT4:=Za hT4;clear hz0;clear hBW hBw3 hF3 hF4 HR2 HB2 hRT HSW HS0 HR1 HB1;go_upto_region 3 with fail
 clear c2 z2;generalize World.setCell V3 _ _=V4 at HF4 hR4 HT4 HO4 ⊢;have i0:=cR hR4 0;have i1:=cR hR4 1;have i2:=cR hR4 2;have i3:=cR hR4 3;have i4:=cR hR4 4;have i5:=cR hR4 5;have i6:=cR hR4 6;have i7:=cR hR4 7;have hlt4:=Zk (J HT4);go_wp2_with (refine wpList_store_row rfl 89 _ _ rfl w.heap.size #[.int .i64 i.op,.int .i64 i.d,.int .i64 i.a,.int .i64 i.bb,.int .u64 i.n,.int .i64 i.f,.slice xap i.args.length xac,.slice xop i.outs.length xoc] rfl rfl 89 _ (J HT4) (Tryz.infInsI.trans rfl) rfl (by simp [Value.oneCell']) ?_)
 refine bodyPost_ret (Iy (fn:=Tryz.f165) (q:=2) (uy:=89) rfl _ _ w.heap.size 89 #[.int .i64 i.op,.int .i64 i.d,.int .i64 i.a,.int .i64 i.bb,.int .u64 i.n,.int .i64 i.f,.slice xap i.args.length xac,.slice xop i.outs.length xoc] (0,0) _ rfl (setRow_heap _ _ _ _ _ _ (J HT4)) Tryz.underlying89 rfl (Tryz.infInsI.trans rfl)) rfl ?_;have hF:=J HF4;have hO:=J HO4;have hz0:=J HZ0;refine⟨xap,xac,xop,xoc,rfl,J HXA,J HXO,Zzm hF (by have:=(J H).hs; omega) _,⟨hO.os,hO.tape,hO.output,by have:=hO.size; simpa [World.setRow] using this,fun g hg hd=>(setRow_other _ _ _ _ (by omega)).trans (hO.oth g hg hd)⟩⟩
end Go.Proofs.YtedemloocadimaaGreatDoor
