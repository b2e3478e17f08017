import Derived.Test.YtkenknfgeoecbaaGreatDoorJ20
namespace Go.Proofs.YtkenknfgeoecbaaGreatDoor
open Go.RowKit
set_option maxHeartbeats 4000000
set_option maxRecDepth 100000
theorem Zpo (f:Zm)(a b c:Int):My f [a,b,c]=(Jt f a&&(Jt f b&&Jt f c)):=by simp [My,upB,List.range,List.range.loop]
structure ScD (w:World)(p:Zj)(f:Zm)(fv ev pv hv sv bv:Value)(A E:Nat→Array Value)(B:Nat→Value):Prop where
 prog:Mm w fv ev p A E
 func:Cg w f pv hv sv bv B
theorem ScD.below {w w':World}{p:Zj}{f:Zm}{fv ev pv hv sv bv:Value}{A E:Nat→Array Value}{B:Nat→Value}(h:ScD w p f fv ev pv hv sv bv A E B)(hb:Below w.heap.size w w'):ScD w' p f fv ev pv hv sv bv A E B:=⟨h.prog.below hb,h.func.below hb⟩
structure Zte (p:Zj)(f:Zm):Prop where
 slots:Xc f.slots 1 8=true
 funcs:∀ k,k<p.funcs.length→(p.funcs.getD k Zl).params.length≤8∧(p.funcs.getD k Zl).results≤4
 externs:∀ k,k<p.externs.length→(p.externs.getD k ([],0)).2≤4
theorem Li.list {w:World}(ns:List Int)(hs:ns.length<Jy):Li (w.alloc (.cells (ns.map fun n=>Value.int .i64 n).toArray 3 (0,0))) (.slice (some ⟨w.heap.size,0,none⟩) ns.length ns.length) ns:=Li.new (heap_alloc_new w _) hs
abbrev FfS (op:Int):Prop:=∀(p:Zj) (f:Zm) (d a bb n fx:Int) (gs:List (Int×Int)) (os:List Int) (fv ev pv hv sv bv av ov:Value) (A E:Nat→Array Value) (B:Nat→Value) (w:World),ScD w p f fv ev pv hv sv bv A E B→LS 2 w av gs.length (fun k=>Nx (gs.getD k (0,0)))→Li w ov os→Zte p f→0≤n∧n<18446744073709551616→Calls Tryz.prog 200 #[.agg #[fv,ev,pv,.int .i64 f.results,hv,sv,bv],.agg #[.int .i64 op,.int .i64 d,.int .i64 a,.int .i64 bb,.int .u64 n,.int .i64 fx,av,ov]] w fun e w'=>e=.returned (.bool (Xr p f ⟨op,d,a,bb,n,fx,gs,os⟩))∧Below w.heap.size w w'
theorem Ybg {p:Zj}{f:Zm}{gs:List (Int×Int)}{os:List Int}{fv ev pv hv sv bv av ov:Value}{A E:Nat→Array Value}{B:Nat→Value}{w:World}(op d a bb n fx:Int)(hSC:ScD w p f fv ev pv hv sv bv A E B)(ha:LS 2 w av gs.length (fun k=>Nx (gs.getD k (0,0))))(ho:Li w ov os)(W:World)(hW:W=(w.alloc (.cells #[fv,ev,pv,.int .i64 f.results,hv,sv,bv] 272 (0,0))).alloc (.cells #[.int .i64 op,.int .i64 d,.int .i64 a,.int .i64 bb,.int .u64 n,.int .i64 fx,av,ov] 110 (0,0))) :
 ∃ pf cf pe ce pp cp ph ch ps cs pb cb pa ca po co,fv=.slice pf p.funcs.length cf∧ev=.slice pe p.externs.length ce∧pv=.slice pp f.params.length cp∧hv=.slice ph f.homes.length ch∧sv=.slice ps f.slots.length cs∧bv=.slice pb f.blocks.length cb∧av=.slice pa gs.length ca∧ov=.slice po os.length co∧(f.homes.length<9223372036854775808∧f.slots.length<9223372036854775808∧f.blocks.length<9223372036854775808∧p.funcs.length<9223372036854775808∧p.externs.length<9223372036854775808∧os.length<9223372036854775808)∧Hid (ScD W p f fv ev pv hv sv bv A E B)∧Hid (LS 2 W av gs.length (fun k=>Nx (gs.getD k (0,0))))∧Hid (Li W ov os)∧Hid (Below w.heap.size w W)∧Hid (W.heap[w.heap.size]?=some (.cells #[fv,ev,pv,.int .i64 f.results,hv,sv,bv] 272 (0,0)))∧Hid (W.heap[w.heap.size+1]?=some (.cells #[.int .i64 op,.int .i64 d,.int .i64 a,.int .i64 bb,.int .u64 n,.int .i64 fx,av,ov] 110 (0,0)))∧Hid (W.heap.size=w.heap.size+1+1):=by
 have hx:=al0 w (.cells #[fv,ev,pv,.int .i64 f.results,hv,sv,bv] 272 (0,0));generalize hW1:World.alloc w (.cells #[fv,ev,pv,.int .i64 f.results,hv,sv,bv] 272 (0,0))=W1 at hx hW;have hx2:=al0 W1 (.cells #[.int .i64 op,.int .i64 d,.int .i64 a,.int .i64 bb,.int .u64 n,.int .i64 fx,av,ov] 110 (0,0));rw [← hW] at hx2;have hs1:=hx.2.2;have hs2:=hx2.2.2;have hb12:=Zd hx.2.1 hx2.2.1 (by omega);have hr2:=hx2.1;rw [hs1] at hr2 hs2;obtain⟨pf,cf,e1⟩:=hSC.prog.fs.shape;obtain⟨pe,ce,e2⟩:=hSC.prog.es.shape;obtain⟨pp,cp,e3⟩:=hSC.func.ps.shape;obtain⟨ph,ch,e4⟩:=hSC.func.hs.shape;obtain⟨ps,cs,e5⟩:=hSC.func.ss.shape;obtain⟨pb,cb,e6⟩:=hSC.func.bs.shape;obtain⟨pa,ca,e7⟩:=ha.shape;obtain⟨po,co,e8⟩:=ho.shape;exact⟨pf,cf,pe,ce,pp,cp,ph,ch,ps,cs,pb,cb,pa,ca,po,co,e1,e2,e3,e4,e5,e6,e7,e8,⟨hSC.func.hs.lt,hSC.func.ss.lt,by obtain⟨_,_,_,_,h,_⟩:=hSC.func.bs; exact h,by obtain⟨_,_,_,_,h,_⟩:=hSC.prog.fs; exact h,by obtain⟨_,_,_,_,h,_⟩:=hSC.prog.es; exact h,ho.lt⟩,Za (hSC.below hb12),Za (ha.below hb12),Za (ho.below hb12),Za hb12,Za ((hx2.2.1.block w.heap.size (by omega)).trans hx.1),Za hr2,Za hs2⟩
theorem Yey:FfS 3:=by
 intro p f d a bb n fx gs os fv ev pv hv sv bv av ov A E B w hSC ha ho hF hn;obtain⟨pf,cf,pe,ce,pp,cp,ph,ch,ps,cs,pb,cb,pa,ca,po,co,rfl,rfl,rfl,rfl,rfl,rfl,rfl,rfl,⟨hl1,hl2,hl3,hl4,hl5,hl6⟩,HSC,HA,HO,HW,HR1,HR2,HZ⟩:=Ybg 3 d a bb n fx hSC ha ho _ rfl;have HF:=Za hF;have HNN:=Za hn;clear hSC ha ho hF hn;go_enter Tryz.func200,Tryz.ntmps200
 go_wp2_with fail
 generalize World.alloc (World.alloc w _) _=W at HSC HA HO HW HR1 HR2 HZ ⊢;have hT:=J HZ;rw [← hT];refine(Cf f _ _ _ _ _ _ _ _ [d,a,bb] _ ⟨_,_,rfl⟩ hl1 (Li.list (w:=W) [d,a,bb] (by show 3<Jy; decide))).mono ?_;rintro e w2 ⟨rfl,hb⟩;have HB2:=Za (Zd (al0 W _).2.1 hb (by simp));clear hb hT;rw [Zpo];have hx:=Za (show Xr p f ⟨3,d,a,bb,n,fx,gs,os⟩=(Jt f d&&(Jt f a&&Jt f bb)) by rfl);go_wp2;go_ret;exact⟨by rw [J hx]; rfl,Zd (J HW) (J HB2) (by have:=J HZ; omega)⟩
theorem Ybw:FfS 16:=by
 intro p f d a bb n fx gs os fv ev pv hv sv bv av ov A E B w hSC ha ho hF hn;obtain⟨pf,cf,pe,ce,pp,cp,ph,ch,ps,cs,pb,cb,pa,ca,po,co,rfl,rfl,rfl,rfl,rfl,rfl,rfl,rfl,⟨hl1,hl2,hl3,hl4,hl5,hl6⟩,HSC,HA,HO,HW,HR1,HR2,HZ⟩:=Ybg 16 d a bb n fx hSC ha ho _ rfl;have HF:=Za hF;have HNN:=Za hn;clear hSC ha ho hF hn;go_enter Tryz.func200,Tryz.ntmps200
 by_cases h1:(os.length:Int)=f.results
 ·have z1:((os.length:Int)==f.results)=true:=by simpa using h1
  go_wp2_with fail
  generalize World.alloc (World.alloc w _) _=W at HSC HA HO HW HR1 HR2 HZ ⊢;refine(Cf f _ _ _ _ _ _ _ _ os W ⟨_,_,rfl⟩ hl1 (J HO)).mono ?_;rintro e w2 ⟨rfl,hb⟩;have HB2:=Za hb;clear hb;have hx:=Za (show Xr p f ⟨16,d,a,bb,n,fx,gs,os⟩=My f os by unfold Xr; simp [h1]);go_wp2;go_ret;exact⟨by rw [J hx]; rfl,Zd (J HW) (J HB2) (by have:=J HZ; omega)⟩
 ·have z1:((os.length:Int)==f.results)=false:=by simpa using h1
  have hx:=Za (show Xr p f ⟨16,d,a,bb,n,fx,gs,os⟩=false by unfold Xr; simp [h1]);clear h1;go_wp2;go_ret;exact⟨by rw [J hx]; rfl,J HW⟩
end Go.Proofs.YtkenknfgeoecbaaGreatDoor
