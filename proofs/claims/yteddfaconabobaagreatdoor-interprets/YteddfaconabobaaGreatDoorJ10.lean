import Derived.Test.YteddfaconabobaaGreatDoorPk
import Derived.Test.YteddfaconabobaaGreatDoorCkL
import Derived.Test.YteddfaconabobaaGreatDoorJ3
namespace Go.Proofs.YteddfaconabobaaGreatDoor
open Go.RowKit
set_option maxHeartbeats 4000000 in
set_option maxRecDepth 100000 in
theorem Zng:FfS 13:=by
 intro p f d a bb n fx gs os fv ev pv hv sv bv av ov A E B w hSC ha ho hF hn;obtain⟨pf,cf,pe,ce,pp,cp,ph,ch,ps,cs,pb,cb,pa,ca,po,co,rfl,rfl,rfl,rfl,rfl,rfl,rfl,rfl,⟨hl1,hl2,hl3,hl4,hl5,hl6⟩,HSC,HA,HO,HW,HR1,HR2,HZ⟩:=Ls 13 d a bb n fx hSC ha ho _ rfl;have HF:=J hF;have HNN:=J hn;clear hSC ha ho hF hn;go_enter Tryz.func102,Tryz.ntmps102
 go_wp2_with fail
 generalize World.alloc (World.alloc w _) _=W at HSC HA HO HW HR1 HR2 HZ ⊢;have hT:=G HZ;cases hr:Yi fx 0 (p.externs.length-1) with
 | false =>
  have HX:=J (show Zf p f ⟨13,d,a,bb,n,fx,gs,os⟩=false by unfold Zf; simp [hr]);have HWI:=J (fun V=>Xb fx 0 (p.externs.length-1) V);rw [hr] at HWI;have s1:=(cR (G HR1) 1);have i5:=(cR (G HR2) 5);clear hT hr;go_quiet ((go_at_call 74; exact Calls.quiet_of_same (G HWI _)))
  go_wp2;go_ret;exact⟨by rw [G HX]; rfl,Zk (G HW) _⟩
 | true =>
  unfold Yi at hr;obtain⟨g0,g1⟩:=of_decide_eq_true hr;obtain⟨m,rfl⟩:∃ m:Nat,fx=m:=⟨fx.toNat,by omega⟩;have hm:m<p.externs.length:=by omega
  obtain⟨p',cap',he,-,-,hcc⟩:=(G HSC).prog.es;injection he with e1 e2 e3;subst e1 e3;obtain⟨sb,so,rfl,hsbl,hc⟩:=hcc (by omega);have hel:=hc m hm;have hfc:=(G HSC).prog.eeach m hm;have hgd:p.externs[m]=p.externs.getD m ([],0):=by simp [List.getD,hm]
  rw [hgd] at hfc;have hg8:=(G HF).externs m hm;have HX:=J (show Zf p f ⟨13,d,a,bb,n,m,gs,os⟩=(Jh f ⟨13,d,a,bb,n,m,gs,os⟩ (p.externs.getD m ([],0))) by unfold Zf Yi; simp only [Int.toNat_natCast]; simp; omega);generalize p.externs.getD m ([],0)=s at hfc hg8 HX;obtain⟨gv,hA,hli⟩:=hfc;have HLI:=J hli;obtain⟨gp,gc,rfl⟩:=hli.shape;rw [hA] at hel;have e0:=hel 0 _ rfl;have e1:=hel 1 _ rfl;rw [Nat.add_zero] at e0;have HK:=J (fun(V:World) (h:Below W.heap.size W V)=>show Below W.heap.size W V∧V.cell? ⟨w.heap.size,0,none⟩=some (.slice pf p.funcs.length cf)∧V.cell? ⟨w.heap.size,1,none⟩=some (.slice (some ⟨sb,so,none⟩) p.externs.length ce)∧V.cell? ⟨w.heap.size,2,none⟩=some (.slice pp f.params.length cp)∧V.cell? ⟨w.heap.size,3,none⟩=some (.int .i64 f.results)∧V.cell? ⟨w.heap.size,4,none⟩=some (.slice ph f.homes.length ch)∧V.cell? ⟨w.heap.size,5,none⟩=some (.slice ps f.slots.length cs)∧V.cell? ⟨w.heap.size,6,none⟩=some (.slice pb f.blocks.length cb)∧V.cell? ⟨w.heap.size+1,0,none⟩=some (.int .i64 13)∧V.cell? ⟨w.heap.size+1,1,none⟩=some (.int .i64 d)∧V.cell? ⟨w.heap.size+1,2,none⟩=some (.int .i64 a)∧V.cell? ⟨w.heap.size+1,3,none⟩=some (.int .i64 bb)∧V.cell? ⟨w.heap.size+1,4,none⟩=some (.int .u64 n)∧V.cell? ⟨w.heap.size+1,5,none⟩=some (.int .i64 ↑m)∧V.cell? ⟨w.heap.size+1,6,none⟩=some (.slice pa gs.length ca)∧V.cell? ⟨w.heap.size+1,7,none⟩=some (.slice po os.length co)∧V.cell? ⟨sb,so+m*2,none⟩=some (.slice gp s.1.length gc)∧V.cell? ⟨sb,so+m*2+1,none⟩=some (.int .i64 s.2) from⟨h,(cR ((h.block w.heap.size (by omega)).trans (G HR1)) 0),(cR ((h.block w.heap.size (by omega)).trans (G HR1)) 1),(cR ((h.block w.heap.size (by omega)).trans (G HR1)) 2),(cR ((h.block w.heap.size (by omega)).trans (G HR1)) 3),(cR ((h.block w.heap.size (by omega)).trans (G HR1)) 4),(cR ((h.block w.heap.size (by omega)).trans (G HR1)) 5),(cR ((h.block w.heap.size (by omega)).trans (G HR1)) 6),(cR ((h.block (w.heap.size+1) (by omega)).trans (G HR2)) 0),(cR ((h.block (w.heap.size+1) (by omega)).trans (G HR2)) 1),(cR ((h.block (w.heap.size+1) (by omega)).trans (G HR2)) 2),(cR ((h.block (w.heap.size+1) (by omega)).trans (G HR2)) 3),(cR ((h.block (w.heap.size+1) (by omega)).trans (G HR2)) 4),(cR ((h.block (w.heap.size+1) (by omega)).trans (G HR2)) 5),(cR ((h.block (w.heap.size+1) (by omega)).trans (G HR2)) 6),(cR ((h.block (w.heap.size+1) (by omega)).trans (G HR2)) 7),(h.cell hsbl).trans e0,(h.cell hsbl).trans e1⟩)
  have HWI:=J (fun V=>Xb (m:Int) 0 (IntKind.i64.wrap (p.externs.length-1)) V);have hin:Yi (m:Int) 0 (IntKind.i64.wrap (p.externs.length-1))=true:=by rw [IntKind.wrap_of_boundsK (by omega) (by omega)]; unfold Yi; simp; omega
  rw [hin] at HWI;have HCF:=J (Kg f ⟨13,d,a,bb,n,m,gs,os⟩ s (.slice pf p.funcs.length cf) (.slice (some ⟨sb,so,none⟩) p.externs.length ce) (.slice pp f.params.length cp) (.slice ph f.homes.length ch) (.slice ps f.slots.length cs) (.slice pb f.blocks.length cb) (.slice pa gs.length ca) (.slice po os.length co) (.slice gp s.1.length gc) W.drew ((G HSC).below (Below.refl W.heap.size W).drew).func.hs ((G HSC).below (Below.refl W.heap.size W).drew).func.ss ((G HA).below (Below.refl W.heap.size W).drew) ((G HO).below (Below.refl W.heap.size W).drew) ((G HLI).below (Below.refl W.heap.size W).drew) (by omega));have HWJ:=J (G HWI W.drew);have HK0:=J (G HK W.drew (Below.refl W.heap.size W).drew);clear hT hr hin hli hel e0 e1 hcc hc hgd g0 g1 hA;refine wp_region_held_drew (S:=fun V=>Below W.heap.size W V∧V.cell? ⟨w.heap.size,0,none⟩=some (.slice pf p.funcs.length cf)∧V.cell? ⟨w.heap.size,1,none⟩=some (.slice (some ⟨sb,so,none⟩) p.externs.length ce)∧V.cell? ⟨w.heap.size,2,none⟩=some (.slice pp f.params.length cp)∧V.cell? ⟨w.heap.size,3,none⟩=some (.int .i64 f.results)∧V.cell? ⟨w.heap.size,4,none⟩=some (.slice ph f.homes.length ch)∧V.cell? ⟨w.heap.size,5,none⟩=some (.slice ps f.slots.length cs)∧V.cell? ⟨w.heap.size,6,none⟩=some (.slice pb f.blocks.length cb)∧V.cell? ⟨w.heap.size+1,0,none⟩=some (.int .i64 13)∧V.cell? ⟨w.heap.size+1,1,none⟩=some (.int .i64 d)∧V.cell? ⟨w.heap.size+1,2,none⟩=some (.int .i64 a)∧V.cell? ⟨w.heap.size+1,3,none⟩=some (.int .i64 bb)∧V.cell? ⟨w.heap.size+1,4,none⟩=some (.int .u64 n)∧V.cell? ⟨w.heap.size+1,5,none⟩=some (.int .i64 ↑m)∧V.cell? ⟨w.heap.size+1,6,none⟩=some (.slice pa gs.length ca)∧V.cell? ⟨w.heap.size+1,7,none⟩=some (.slice po os.length co)∧V.cell? ⟨sb,so+m*2,none⟩=some (.slice gp s.1.length gc)∧V.cell? ⟨sb,so+m*2+1,none⟩=some (.int .i64 s.2)) (by kernel_rfl) (G HK0) (fun hHeld=>?_)
  refine tT 0 ?_;simp only [Act.put,zA,zB,zC,zD,zE];refine tT 1 ?_;simp only [Act.put,zA,zB,zC,zD,zE,zF];refine tT 2 ?_;simp only [Act.put,zA,zB,zC,zD,zE,zF];refine tT 3 ?_;simp only [Act.put,zA,zB,zC,zD,zE,zF];refine tT 4 ?_;simp only [Act.put,zA,zB,zC,zD,zE,zF];refine tT 5 ?_;simp only [Act.put,zA,zB,zC,zD,zE,zF];refine tT 6 ?_;simp only [Act.put,zA,zB,zC,zD,zE,zF];refine tO 7 fun K hK=>?_;go_simp;refine(G HWJ).mono ?_;rintro e w5 ⟨rfl,hb5⟩;subst w5;go_wp2_with fail
  refine hK.out _ _ (G HK0) (fun hHeld2=>?_);clear hK K;try simp only [Act.put,zA,zB,zC,zD,zE,zF]
  refine tT 8 ?_;simp only [Act.put,zA,zB,zC,zD,zE,zF];refine tT 9 ?_;simp only [Act.put,zA,zB,zC,zD,zE,zF];refine tT 10 ?_;simp only [Act.put,zA,zB,zC,zD,zE,zF];refine tT 11 ?_;simp only [Act.put,zA,zB,zC,zD,zE,zF];refine tT 12 ?_;simp only [Act.put,zA,zB,zC,zD,zE,zF];refine tT 13 ?_;simp only [Act.put,zA,zB,zC,zD,zE,zF];refine tT 14 ?_;simp only [Act.put,zA,zB,zC,zD,zE,zF];refine tT 15 ?_;simp only [Act.put,zA,zB,zC,zD,zE,zF];refine tT 16 ?_;simp only [Act.put,zA,zB,zC,zD,zE,zF];refine tT 17 ?_;simp only [Act.put,zA,zB,zC,zD,zE,zF];refine tO 18 fun K hK=>?_;go_simp;refine(G HCF).mono ?_;rintro e w7 ⟨rfl,hb7⟩;have HB7:=J (Za (Below.refl W.heap.size W).drew hb7 (Nat.le_refl _));clear hb7;go_wp2_with fail
  refine hK.out _ _ (G HK _ (G HB7)) (fun hHeld2=>?_);clear hK K;try simp only [Act.put,zA,zB,zC,zD,zE,zF]
  refine tT 19 ?_;simp only [Act.put,zA,zB,zC,zD,zE,zF];refine tT 20 ?_;simp only [Act.put,zA,zB,zC,zD,zE,zF];refine wpAnyH_done (by kernel_rfl) ?_ _;go_wp2;go_ret;exact⟨by rw [G HX]; rfl,Za (G HW) (G HB7) (by have:=G HZ; omega)⟩
theorem Zbx (p:Zl)(f:Zn)(i:Zw)(fv ev pv hv sv bv av ov:Value)(A E:Nat→Array Value)(B:Nat→Value)(w:World)(h1:1≤i.op)(h18:i.op≤18)(hSC:ScD w p f fv ev pv hv sv bv A E B)(ha:LS 2 w av i.args.length (fun k=>Yz (i.args.getD k (0,0))))(ho:Li w ov i.outs)(hF:Kh p f)(hn:0≤i.n∧i.n<18446744073709551616) :
 Calls Tryz.prog 102 #[.agg #[fv,ev,pv,.int .i64 f.results,hv,sv,bv],.agg #[.int .i64 i.op,.int .i64 i.d,.int .i64 i.a,.int .i64 i.bb,.int .u64 i.n,.int .i64 i.f,av,ov]] w fun e w'=>e=.returned (.bool (Zf p f i))∧Below w.heap.size w w':=by
 obtain⟨op,d,a,bb,n,fx,gs,os⟩:=i;simp only at h1 h18 ha ho hn ⊢;have hs:op=1∨op=2∨op=3∨op=4∨op=5∨op=6∨op=7∨op=8∨op=9∨op=10∨op=11∨op=12∨op=13∨op=14∨op=15∨op=16∨op=17∨op=18:=by omega
 rcases hs with rfl | rfl | rfl | rfl | rfl | rfl | rfl | rfl | rfl | rfl | rfl | rfl | rfl | rfl | rfl | rfl | rfl | rfl
 ·
  exact Zoo p f d a bb n fx gs os fv ev pv hv sv bv av ov A E B w hSC ha ho hF hn
 ·
  exact Zop p f d a bb n fx gs os fv ev pv hv sv bv av ov A E B w hSC ha ho hF hn
 ·
  exact Zoq p f d a bb n fx gs os fv ev pv hv sv bv av ov A E B w hSC ha ho hF hn
 ·
  exact Zor p f d a bb n fx gs os fv ev pv hv sv bv av ov A E B w hSC ha ho hF hn
 ·
  exact Zos p f d a bb n fx gs os fv ev pv hv sv bv av ov A E B w hSC ha ho hF hn
 ·
  exact Zot p f d a bb n fx gs os fv ev pv hv sv bv av ov A E B w hSC ha ho hF hn
 ·
  exact Zou p f d a bb n fx gs os fv ev pv hv sv bv av ov A E B w hSC ha ho hF hn
 ·
  exact Zov p f d a bb n fx gs os fv ev pv hv sv bv av ov A E B w hSC ha ho hF hn
 ·
  exact Zow p f d a bb n fx gs os fv ev pv hv sv bv av ov A E B w hSC ha ho hF hn
 ·
  exact Znb p f d a bb n fx gs os fv ev pv hv sv bv av ov A E B w hSC ha ho hF hn
 ·
  exact Znc p f d a bb n fx gs os fv ev pv hv sv bv av ov A E B w hSC ha ho hF hn
 ·
  exact Zne p f d a bb n fx gs os fv ev pv hv sv bv av ov A E B w hSC ha ho hF hn
 ·
  exact Zng p f d a bb n fx gs os fv ev pv hv sv bv av ov A E B w hSC ha ho hF hn
 ·
  exact Zmy p f d a bb n fx gs os fv ev pv hv sv bv av ov A E B w hSC ha ho hF hn
 ·
  exact Zna p f d a bb n fx gs os fv ev pv hv sv bv av ov A E B w hSC ha ho hF hn
 ·
  exact Znd p f d a bb n fx gs os fv ev pv hv sv bv av ov A E B w hSC ha ho hF hn
 ·
  exact Znf p f d a bb n fx gs os fv ev pv hv sv bv av ov A E B w hSC ha ho hF hn
 ·
  exact Zmz p f d a bb n fx gs os fv ev pv hv sv bv av ov A E B w hSC ha ho hF hn
theorem Znh (op:Int)(w:World):Calls Tryz.prog 100 #[.int .i64 op] w fun e w'=>e=.returned (.bool (Yi op 14 18))∧w'=w:=by
 unfold Yi;by_cases h1:14≤op
 ·
  by_cases h2:op≤18
  ·
   have hd:decide (14≤op∧op≤18)=true:=by simp; omega
   rw [hd];clear hd;go_enter Tryz.func100,Tryz.ntmps100
   go_wp2;go_ret;exact⟨rfl,rfl⟩
  ·
   have hd:decide (14≤op∧op≤18)=false:=by simp; omega
   rw [hd];clear hd;go_enter Tryz.func100,Tryz.ntmps100
   go_wp2;go_ret;exact⟨rfl,rfl⟩
 ·
  have hd:decide (14≤op∧op≤18)=false:=by simp; omega
  rw [hd];clear hd;go_enter Tryz.func100,Tryz.ntmps100
  go_wp2;go_ret;exact⟨rfl,rfl⟩
set_option maxRecDepth 100000 in
theorem Zho (op:Int)(w:World)(hg:Jb w)(h:¬ (1≤op∧op≤18)):Calls Tryz.prog 99 #[.int .i64 op] w fun e w'=>e=.returned (.int .u8 0)∧w'=w:=by
 by_cases h0:op<0
 ·
  clear h;go_enter Tryz.func99,Tryz.ntmps99
  go_wp2;go_ret;exact⟨rfl,rfl⟩
 ·
  by_cases h19:19≤op
  ·
   clear h;go_enter Tryz.func99,Tryz.ntmps99
   go_wp2;go_ret;exact⟨rfl,rfl⟩
  ·
   obtain rfl:op=0:=by omega
   have c0:=(hg 0 (by decide)).trans rfl;clear h h0 h19 hg;go_enter Tryz.func99,Tryz.ntmps99
   go_wp2;go_ret;exact⟨rfl,rfl⟩
theorem Zkg (op:Int)(h1:1≤op)(h2:op≤18):((Kn op) != 0)=true:=by
 have hs:op=1∨op=2∨op=3∨op=4∨op=5∨op=6∨op=7∨op=8∨op=9∨op=10∨op=11∨op=12∨op=13∨op=14∨op=15∨op=16∨op=17∨op=18:=by omega
 rcases hs with rfl | rfl | rfl | rfl | rfl | rfl | rfl | rfl | rfl | rfl | rfl | rfl | rfl | rfl | rfl | rfl | rfl | rfl <;> rfl
theorem Jb.keep {w w':World}(h:Jb w)(hb:Below w.heap.size w w'):Jb w':=fun k hk=>(hb.cell (World.block_lt_of_cell? w _ (h k hk))).trans (h k hk)
set_option maxHeartbeats 4000000 in
set_option maxRecDepth 100000 in
theorem Zni (p:Zl)(f:Zn)(i:Zw)(last:Bool)(fv ev pv hv sv bv av ov:Value)(A E:Nat→Array Value)(B:Nat→Value)(w:World)(hSC:ScD w p f fv ev pv hv sv bv A E B)(ha:LS 2 w av i.args.length (fun k=>Yz (i.args.getD k (0,0))))(ho:Li w ov i.outs)(hF:Kh p f)(hn:0≤i.n∧i.n<18446744073709551616)(hN:Jb w)(h1w:1<w.heap.size) :
 Calls Tryz.prog 80 #[.agg #[fv,ev,pv,.int .i64 f.results,hv,sv,bv],.agg #[.int .i64 i.op,.int .i64 i.d,.int .i64 i.a,.int .i64 i.bb,.int .u64 i.n,.int .i64 i.f,av,ov],.bool last] w fun e w'=>e=.returned (.bool (Xd p f i last))∧Below w.heap.size w w':=by
 have hx:=Yj w (.cells #[fv,ev,pv,.int .i64 f.results,hv,sv,bv] 173 (0,0));generalize hW1:World.alloc w (.cells #[fv,ev,pv,.int .i64 f.results,hv,sv,bv] 173 (0,0))=W1 at hx;have hx2:=Yj W1 (.cells #[.int .i64 i.op,.int .i64 i.d,.int .i64 i.a,.int .i64 i.bb,.int .u64 i.n,.int .i64 i.f,av,ov] 65 (0,0));have hs1:=hx.2.2;have hs2:=hx2.2.2;have hb12:=Za hx.2.1 hx2.2.1 (by omega);have HSC:=J (hSC.below hb12);have HA:=J (ha.below hb12);have HO:=J (ho.below hb12);have HNA:=J (hN.keep hb12);have HW:=J hb12;have HR1:=J ((hx2.2.1.block w.heap.size (by omega)).trans hx.1);have hr2:=hx2.1;rw [hs1] at hr2 hs2;have HR2:=J hr2;have HZ:=J hs2;have HF:=J hF;have HNN:=J hn;obtain⟨pf,cf,rfl⟩:=hSC.prog.fs.shape;obtain⟨pe,ce,rfl⟩:=hSC.prog.es.shape;obtain⟨pp,cp,rfl⟩:=hSC.func.ps.shape;obtain⟨ph,ch,rfl⟩:=hSC.func.hs.shape;obtain⟨ps,cs,rfl⟩:=hSC.func.ss.shape;obtain⟨pb,cb,rfl⟩:=hSC.func.bs.shape;obtain⟨pa,ca,rfl⟩:=ha.shape;obtain⟨po,co,rfl⟩:=ho.shape;have H1W:=J h1w;clear hx hx2 hs1 hs2 hb12 hr2 hSC ha ho hF hn hN h1w;subst hW1;go_enter Tryz.func80,Tryz.ntmps80
 go_wp2_with fail
 generalize World.alloc (World.alloc w _) _=W at HSC HA HO HNA HW HR1 HR2 HZ ⊢;have i0:=(cR (G HR2) 0);have i1:=(cR (G HR2) 1);have i2:=(cR (G HR2) 2);have i3:=(cR (G HR2) 3);have i4:=(cR (G HR2) 4);have i5:=(cR (G HR2) 5);have i6:=(cR (G HR2) 6);have i7:=(cR (G HR2) 7);by_cases hop:1≤i.op∧i.op≤18
 ·
  refine(Zex i.op hop.1 hop.2 W (G HNA)).mono ?_;rintro e w2 ⟨rfl,h2⟩;subst w2;have zn:=Zkg i.op hop.1 hop.2;generalize Kn i.op=nd at zn ⊢;have HOP:=J hop;clear hop;go_wp2_with fail
  refine(Znh i.op W).mono ?_;rintro e w2 ⟨rfl,h2⟩;subst w2;have HI:=J (show Xd p f i last=((Yi i.op 14 18==last)&&(!i.spare&&Zf p f i)) by
   have hop:=G HOP;unfold Xd Yi;have e1:decide (1≤i.op∧i.op≤18)=true:=decide_eq_true hop;have e2:decide (14≤i.op∧i.op≤18)=decide (14≤i.op):=decide_eq_decide.2 ⟨fun h=>h.1,fun h=>⟨h,hop.2⟩⟩;rw [e1,e2,Bool.true_and])
  generalize Yi i.op 14 18=en at HI ⊢;by_cases hel:en=last
  ·
   subst hel;have ze:(en==en)=true:=by simp
   go_wp2_with fail
   refine(Zdt i.op i.d i.a i.bb i.n i.f pa po i.args.length i.outs.length ca co W (G HOP).1 (G HOP).2 (G HNA) (World.block_lt_of_cell? W _ (G HNA 0 (by decide)))).mono ?_;rintro e w2 ⟨rfl,hb⟩;have HB2:=J hb;clear hb i0 i1 i2 i3 i4 i5 i6 i7;have hz:=G HZ;have hrs:=((G HB2).block w.heap.size (by omega)).trans (G HR1);have hri:=((G HB2).block (w.heap.size+1) (by omega)).trans (G HR2);have s0:=(cR hrs 0);have s1:=(cR hrs 1);have s2:=(cR hrs 2);have s3:=(cR hrs 3);have s4:=(cR hrs 4);have s5:=(cR hrs 5);have s6:=(cR hrs 6);have i0:=(cR hri 0);have i1:=(cR hri 1);have i2:=(cR hri 2);have i3:=(cR hri 3);have i4:=(cR hri 4);have i5:=(cR hri 5);have i6:=(cR hri 6);have i7:=(cR hri 7);clear hz hrs hri;cases hsp:i.spare with
   | true =>
    have hx:=J (show Xd p f i en=false by rw [G HI,hsp]; simp);have hsp':Dz i.op i.d i.a i.bb i.n i.f i.args.length i.outs.length=true:=hsp;rw [hsp'];clear hsp hsp';go_wp2;go_ret;exact⟨by rw [G hx]; rfl,Za (G HW) (G HB2) (by have:=G HZ; omega)⟩
   | false =>
    have HX:=J (show Xd p f i en=Zf p f i by rw [G HI,hsp]; simp);have hsp':Dz i.op i.d i.a i.bb i.n i.f i.args.length i.outs.length=false:=hsp;rw [hsp'];clear hsp hsp';go_wp2_with fail
    refine(Zbx p f i _ _ _ _ _ _ _ _ A E B w2 (G HOP).1 (G HOP).2 ((G HSC).below (G HB2)) ((G HA).below (G HB2)) ((G HO).below (G HB2)) (G HF) (G HNN)).mono ?_;rintro e w3 ⟨rfl,hb⟩;have HB3:=J (Za (G HB2) hb (G HB2).size);clear hb;go_wp2;go_ret;exact⟨by rw [G HX]; rfl,Za (G HW) (G HB3) (by have:=G HZ; omega)⟩
  ·
   have ze:(en==last)=false:=by simpa using hel
   have hx:=J (show Xd p f i last=false by rw [G HI,ze]; rfl);clear hel;go_wp2;go_ret;exact⟨by rw [G hx]; rfl,G HW⟩
 ·
  refine(Zho i.op W (G HNA) hop).mono ?_;rintro e w2 ⟨rfl,h2⟩;subst w2;have hx:=J (show Xd p f i last=false by unfold Xd Yi; rw [decide_eq_false hop]; rfl);clear hop;go_wp2;go_ret;exact⟨by rw [G hx]; rfl,G HW⟩
def Zox (f:Zn):Prop:=∀ k j,0≤((f.blocks.getD k []).getD j Lt).n∧((f.blocks.getD k []).getD j Lt).n<18446744073709551616
theorem LS.eights {w:World}{v:Value}{n:Nat}{A:Nat→Array Value}(h:LS 8 w v n A):∃ p cap,v=.slice p n cap∧n<9223372036854775808∧(0<n→∃ sb so,p=some ⟨sb,so,none⟩∧sb<w.heap.size∧∀ k,k<n→∀ j x,(A k)[j]?=some x→w.cell? ⟨sb,so+k*8+j,none⟩=some x):=by
 obtain⟨p,cap,h1,h2,h3,h4⟩:=h;refine⟨p,cap,h1,h3,fun h0=>?_⟩;obtain⟨sb,so,e,hl,hc⟩:=h4 h0;exact⟨sb,so,e,hl,fun k hk j x hx=>hc k hk j x (by simpa using hx)⟩
set_option maxHeartbeats 8000000 in
set_option maxRecDepth 100000 in
theorem Zai (p:Zl)(f:Zn)(fv ev pv hv sv bv:Value)(A E:Nat→Array Value)(B:Nat→Value)(w:World)(hSC:ScD w p f fv ev pv hv sv bv A E B)(hF:Kh p f)(hnn:Zox f)(hN:Jb w)(h1w:1<w.heap.size) :
 Calls Tryz.prog 63 #[.agg #[fv,ev],.agg #[pv,.int .i64 f.results,hv,sv,bv]] w fun e w'=>e=.returned (.tuple #[.int .i64 (Xr p f).1,.int .i64 (Xr p f).2])∧Below w.heap.size w w':=by
 have hx:=Yj w (.cells #[fv,ev] 29 (0,0));generalize hW1:World.alloc w (.cells #[fv,ev] 29 (0,0))=W1 at hx;have hx2:=Yj W1 (.cells #[pv,.int .i64 f.results,hv,sv,bv] 60 (0,0));generalize hW2:World.alloc W1 (.cells #[pv,.int .i64 f.results,hv,sv,bv] 60 (0,0))=W2 at hx2;have hx3:=Yj W2 (.cells #[fv,ev,pv,.int .i64 f.results,hv,sv,bv] 173 (0,0));have hs1:=hx.2.2;have hs2:=hx2.2.2;have hs3:=hx3.2.2;have hb12:=Za hx.2.1 hx2.2.1 (by omega);have hb13:=Za hb12 hx3.2.1 (by omega);have HSC:=J (hSC.below hb13);have HNA:=J (hN.keep hb13);have HW:=J hb13;have hr3:=hx3.1;rw [hs2,hs1] at hr3 hs3;have HR3:=J hr3;have HZ:=J hs3;have HF:=J hF;have HNN:=J hnn;have H1W:=J h1w;have hl3:f.blocks.length<9223372036854775808:=by obtain⟨_,_,_,_,h,_⟩:=hSC.func.bs; exact h
 obtain⟨pf,cf,rfl⟩:=hSC.prog.fs.shape;obtain⟨pe,ce,rfl⟩:=hSC.prog.es.shape;obtain⟨pp,cp,rfl⟩:=hSC.func.ps.shape;obtain⟨ph,ch,rfl⟩:=hSC.func.hs.shape;obtain⟨ps,cs,rfl⟩:=hSC.func.ss.shape;obtain⟨pb,cb,rfl⟩:=hSC.func.bs.shape;clear hx hx2 hx3 hs1 hs2 hs3 hb12 hb13 hr3 hSC hF hnn hN h1w;subst hW1 hW2;go_enter Tryz.func63,Tryz.ntmps63
 go_wp2_with fail
 generalize World.alloc (World.alloc (World.alloc w _) _) _=W at HSC HNA HW HR3 HZ ⊢;go_loopw [17] (fun j w'=>∃ k:Nat,j=.int .i64 k∧k≤f.blocks.length∧Below W.heap.size W w'∧∀ q,q<k→Rv p f q=true) (fun j _=>f.blocks.length-(intOf j).toNat)
 case atStart=>exact⟨0,rfl,by omega,Below.refl _ _,fun q hq=>by omega⟩
 case round =>
  obtain⟨k,rfl,hk,hbw,hno⟩:=hrel;have HNO:=J hno;clear hno;by_cases hk2:k<f.blocks.length
  ·
   obtain⟨p',cap',he,-,-,hcc⟩:=(G HSC).func.bs.ones;injection he with e1 e2 e3;subst e1 e3;obtain⟨sb,so,rfl,hc⟩:=hcc (by omega);have c0:=(hbw.cell (World.block_lt_of_cell? W _ (hc k hk2))).trans (hc k hk2);have hblk:=(G HSC).func.each k hk2;have hgd:f.blocks[k]=f.blocks.getD k []:=by simp [List.getD,hk2]
   rw [hgd] at hblk;have HOK:=J (fun j=>show Ki p f k j=Xd p f ((f.blocks.getD k []).getD j Lt) (decide (j+1=(f.blocks.getD k []).length)) from rfl);have HBB:=J (show Rv p f k=De (f.blocks.getD k []).length (Ki p f k) from rfl);have HNJ:=J ((G HNN) k);have HWR:=J (fun(hb:Rv p f k=false)=>show Xr p f=((k:Int),(((Gg (f.blocks.getD k []).length (Ki p f k)).getD 0:Nat):Int)) by unfold Xr; rw [Jv (G HNO) hk2 hb]);generalize f.blocks.getD k []=bl at hblk HOK HBB HNJ HWR;obtain⟨Ai,hls,hins⟩:=hblk;obtain⟨pl,cl,hBk,hll,hlc⟩:=hls.eights;rw [hBk] at c0;have HLC:=J hlc;have HINS:=J hins;have HBW:=J hbw;clear hcc hc hgd hls hlc hins hbw hBk e2;go_wp2_with fail
   clear c0;have hwz:=(G HBW).size;generalize hwr:wr=V0 at HBW hwz ⊢;clear hwr;go_loopw [24] (fun j w'=>∃ m:Nat,j=.int .i64 m∧m≤bl.length∧Below V0.heap.size V0 w'∧∀ q,q<m→Ki p f k q=true) (fun j _=>bl.length-(intOf j).toNat)
   case atStart=>exact⟨0,rfl,by omega,Below.refl _ _,fun q hq=>by omega⟩
   case round =>
    obtain⟨m,rfl,hm,hbm,hmo⟩:=hrel;have HMO:=J hmo;clear hmo;have hWm:Below W.heap.size W wr:=Za (G HBW) hbm hwz;have hmz:=hbm.size;by_cases hm2:m<bl.length
    ·
     obtain⟨sl,sx,rfl,hslt,hcell⟩:=G HLC (by omega);have hic:=G HINS m hm2;have hgm:bl[m]=bl.getD m Lt:=by simp [List.getD,hm2]
     rw [hgm] at hic;have HOM:=J ((G HOK) m);have HNM:=J ((G HNJ) m);generalize bl.getD m Lt=i at hic HOM HNM;obtain⟨av,ov,hAi,hav,hov⟩:=hic;have HAV:=J hav;have HOV:=J hov;obtain⟨pa,ca,rfl⟩:=hav.shape;obtain⟨po,co,rfl⟩:=hov.shape;have hcm:=hcell m hm2;rw [hAi] at hcm;have k0:=(hWm.cell hslt).trans (hcm 0 _ rfl);have k1:=(hWm.cell hslt).trans (hcm 1 _ rfl);have k2:=(hWm.cell hslt).trans (hcm 2 _ rfl);have k3:=(hWm.cell hslt).trans (hcm 3 _ rfl);have k4:=(hWm.cell hslt).trans (hcm 4 _ rfl);have k5:=(hWm.cell hslt).trans (hcm 5 _ rfl);have k6:=(hWm.cell hslt).trans (hcm 6 _ rfl);have k7:=(hWm.cell hslt).trans (hcm 7 _ rfl);rw [Nat.add_zero] at k0;have hrow:=(hWm.block (w.heap.size+1+1) (by have:=G HZ; omega)).trans (G HR3);have s0:=fun X:Obj=>(Yh hrow 0 X).trans rfl;have s1:=fun X:Obj=>(Yh hrow 1 X).trans rfl;have s2:=fun X:Obj=>(Yh hrow 2 X).trans rfl;have s3:=fun X:Obj=>(Yh hrow 3 X).trans rfl;have s4:=fun X:Obj=>(Yh hrow 4 X).trans rfl;have s5:=fun X:Obj=>(Yh hrow 5 X).trans rfl;have s6:=fun X:Obj=>(Yh hrow 6 X).trans rfl;have hlast:((m:Int)==(bl.length:Int)-1)=decide (m+1=bl.length):=by
      rw [show((m:Int)==(bl.length:Int)-1)=decide ((m:Int)=(bl.length:Int)-1) from rfl];exact decide_eq_decide.2 (by omega)
     have HWM:=J hWm;have HBM:=J hbm;clear hcm hcell hrow hWm hbm hAi hav hov hgm;generalize hld:decide (m+1=bl.length)=last at hlast HOM;clear hld;go_wp2_with fail
     have hy:=Yj wr (.cells #[.int .i64 i.op,.int .i64 i.d,.int .i64 i.a,.int .i64 i.bb,.int .u64 i.n,.int .i64 i.f,.slice pa i.args.length ca,.slice po i.outs.length co] 65 (0,0));have hbU:=Za (G HWM) hy.2.1 (by have:=(G HWM).size; omega);refine(Zni p f i last _ _ _ _ _ _ _ _ A E B _ ((G HSC).below hbU) ((G HAV).below hbU) ((G HOV).below hbU) (G HF) (G HNM) ((G HNA).keep hbU) (by have:=G HZ; have:=hbU.size; omega)).mono ?_;rintro e w3 ⟨rfl,hb3⟩;have HU:=J (Za (Za (G HBM) hy.2.1 hmz) hb3 (by have:=hy.2.2; omega));have HU2:=J (Za hbU hb3 hbU.size);clear hb3 hy hbU k0 k1 k2 k3 k4 k5 k6 k7 s0 s1 s2 s3 s4 s5 s6;cases hfi:Xd p f i last with
     | false =>
      have hokf:=(G HOM).trans hfi;have hbf:Rv p f k=false:=by rw [G HBB]; exact Ya hm2 hokf
      have hx:=J (show Xr p f=((k:Int),(m:Int)) by rw [G HWR hbf,Jv (G HMO) hm2 hokf]; rfl);clear hfi hokf hbf;go_wp2;go_returns;exact⟨by rw [G hx]; rfl,Za (G HW) (G HU2) (by have:=G HZ; omega)⟩
     | true =>
      have hx:=J (Zq (G HMO) ((G HOM).trans hfi));clear hfi;go_wp2;go_roundw
      case rel=>exact⟨m+1,by go_num,by omega,G HU,G hx⟩
      case measure=>simp [intOf]; omega
    ·
     have hx:=J (Zq (q:=Rv p f) (G HNO) (by rw [G HBB]; exact Yn (fun q hq=>G HMO q (by omega))));obtain rfl:m=bl.length:=by omega
     have HWM:=J hWm;clear hWm hbm;go_wp2;go_roundw
     case rel=>exact⟨k+1,by go_num,by omega,G HWM,G hx⟩
     case measure=>simp [intOf]; omega
  ·
   have hx:=J (show Xr p f=(-1,-1) by unfold Xr; rw [Jw (fun q hq=>G HNO q (by omega))]);obtain rfl:k=f.blocks.length:=by omega
   have HBW:=J hbw;clear hbw;go_wp2;go_returns;exact⟨by rw [G hx]; rfl,Za (G HW) (G HBW) (by have:=G HZ; omega)⟩
theorem LS.twos {w:World}{v:Value}{n:Nat}{A:Nat→Array Value}(h:LS 2 w v n A):∃ p cap,v=.slice p n cap∧n<9223372036854775808∧(0<n→∃ sb so,p=some ⟨sb,so,none⟩∧sb<w.heap.size∧∀ k,k<n→∀ j x,(A k)[j]?=some x→w.cell? ⟨sb,so+k*2+j,none⟩=some x):=by
 obtain⟨p,cap,h1,h2,h3,h4⟩:=h;refine⟨p,cap,h1,h3,fun h0=>?_⟩;obtain⟨sb,so,e,hl,hc⟩:=h4 h0;exact⟨sb,so,e,hl,fun k hk j x hx=>hc k hk j x (by simpa using hx)⟩
theorem LS.fives {w:World}{v:Value}{n:Nat}{A:Nat→Array Value}(h:LS 5 w v n A):∃ p cap,v=.slice p n cap∧n<9223372036854775808∧(0<n→∃ sb so,p=some ⟨sb,so,none⟩∧sb<w.heap.size∧∀ k,k<n→∀ j x,(A k)[j]?=some x→w.cell? ⟨sb,so+k*5+j,none⟩=some x):=by
 obtain⟨p,cap,h1,h2,h3,h4⟩:=h;refine⟨p,cap,h1,h3,fun h0=>?_⟩;obtain⟨sb,so,e,hl,hc⟩:=h4 h0;exact⟨sb,so,e,hl,fun k hk j x hx=>hc k hk j x (by simpa using hx)⟩
set_option maxHeartbeats 4000000 in
set_option maxRecDepth 100000 in
theorem Zby (p:Zl)(fv ev:Value)(A E:Nat→Array Value)(w:World)(hP:Lm w fv ev p A E):Calls Tryz.prog 60 #[.agg #[fv,ev]] w fun e w'=>e=.returned (.bool (Yw p))∧Below w.heap.size w w':=by
 have hx:=Yj w (.cells #[fv,ev] 29 (0,0));have HP:=J (hP.below hx.2.1);have hl4:p.funcs.length<9223372036854775808:=by obtain⟨_,_,_,_,h,_⟩:=hP.fs; exact h
 have hl5:p.externs.length<9223372036854775808:=by obtain⟨_,_,_,_,h,_⟩:=hP.es; exact h
 obtain⟨pf,cf,rfl⟩:=hP.fs.shape;obtain⟨pe,ce,rfl⟩:=hP.es.shape;have HX:=J hx;clear hx hP;go_enter Tryz.func60,Tryz.ntmps60
 go_wp2_with fail
 refine(Xb p.funcs.length 1 8 _).mono ?_;rintro e w2 ⟨rfl,h2⟩;subst w2;cases h1:Yi p.funcs.length 1 8 with
 | false =>
  have hz:=J (show Yw p=false by unfold Yw; rw [h1]; rfl);clear h1;go_wp2;go_ret;exact⟨by rw [G hz]; rfl,(G HX).2.1⟩
 | true =>
  have H1:=J h1;clear h1;by_cases h4:p.externs.length≤4
  ·
   have HCB:=J (show Yw p=De p.externs.length (fun k=>Je (p.externs.getD k ([],0))) by unfold Yw; rw [G H1]; simp [h4]);go_wp2_with fail
   generalize World.alloc w _=W at HP HX ⊢;go_loopw [19] (fun j w'=>∃ k:Nat,j=.int .i64 k∧k≤p.externs.length∧Below W.heap.size W w'∧∀ q,q<k→Je (p.externs.getD q ([],0))=true) (fun j _=>p.externs.length-(intOf j).toNat)
   case atStart=>exact⟨0,rfl,by omega,Below.refl _ _,fun q hq=>by omega⟩
   case round =>
    obtain⟨k,rfl,hk,hbw,hno⟩:=hrel;have HNO:=J hno;clear hno;have hws:=hbw.size;have hWs:=(G HX).2.2;by_cases hk2:k<p.externs.length
    ·
     obtain⟨p',cap',he,-,hcc⟩:=(G HP).es.twos;injection he with e1 e2 e3;subst e1 e3;obtain⟨sb,so,rfl,hslt,hc⟩:=hcc (by omega);have hsc:=(G HP).eeach k hk2;have hgd:p.externs[k]=p.externs.getD k ([],0):=by simp [List.getD,hk2]
     rw [hgd] at hsc;have HBAD:=J (fun hb:Je (p.externs.getD k ([],0))=false=>show Yw p=false by rw [G HCB]; exact Ya hk2 hb);have HNX:=J (fun hb:Je (p.externs.getD k ([],0))=true=>Zq (q:=fun q=>Je (p.externs.getD q ([],0))) (G HNO) hb);generalize p.externs.getD k ([],0)=s at hsc HBAD HNX;obtain⟨lv,hE,hli⟩:=hsc;have HLI:=J hli;obtain⟨pl,cl,rfl⟩:=hli.shape;have hck:=hc k hk2;rw [hE] at hck;have k0:=(hbw.cell hslt).trans (hck 0 _ rfl);have k1:=(hbw.cell hslt).trans (hck 1 _ rfl);rw [Nat.add_zero] at k0;have HBW:=J hbw;clear hck hc hcc hE hgd hli hbw e2;go_wp2_with fail
     have hy:=Yj wr (.cells #[.slice pl s.1.length cl,.int .i64 s.2] 56 (0,0));have hbU:=Za (G HBW) hy.2.1 hws;refine(Iq _ s.1 s.2 _ ((G HLI).below hbU)).mono ?_;rintro e w3 ⟨rfl,hb3⟩;have HU:=J (Za hbU hb3 hbU.size);clear hb3 hbU hy k0 k1;rw [show((s.1,s.2):List Int×Int)=s from rfl];cases hsb:Je s with
     | false =>
      have hz:=J (G HBAD hsb);clear hsb;go_wp2;go_ret;exact⟨by rw [G hz]; rfl,Za (G HX).2.1 (G HU) (by omega)⟩
     | true =>
      have hz:=J (G HNX hsb);clear hsb;go_wp2;go_roundw
      case rel=>exact⟨k+1,by go_num,by omega,G HU,G hz⟩
      case measure=>simp [intOf]; omega
    ·
     have hz:=J (show Yw p=true by rw [G HCB]; exact Yn (fun q hq=>G HNO q (by omega)));obtain rfl:k=p.externs.length:=by omega
     have HBW:=J hbw;clear hbw;go_wp2;go_ret;exact⟨by rw [G hz]; rfl,Za (G HX).2.1 (G HBW) (by omega)⟩
  ·
   have hz:=J (show Yw p=false by unfold Yw; simp [h4]);go_wp2;go_ret;exact⟨by rw [G hz]; rfl,(G HX).2.1⟩
theorem Zer (a b c:Int)(w:World):Calls Tryz.prog 62 #[.int .i64 a,.int .i64 b,.int .i64 c] w fun e w'=>e=.returned (.iface 90 (.pointer (some ⟨w.heap.size,0,none⟩)))∧w'=w.alloc (.cells #[.iface 87 (.int .i64 5),.int .i64 a,.int .i64 b,.int .i64 c] 93 (0,0)):=by
 go_enter Tryz.func62,Tryz.ntmps62
 go_wp2;go_ret;exact⟨rfl,rfl⟩
end Go.Proofs.YteddfaconabobaaGreatDoor
