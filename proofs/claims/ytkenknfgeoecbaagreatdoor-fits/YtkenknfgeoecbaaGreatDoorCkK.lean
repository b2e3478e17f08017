import Derived.Test.YtkenknfgeoecbaaGreatDoorJ15
namespace Go.Proofs.YtkenknfgeoecbaaGreatDoor
open Go.RowKit
set_option maxHeartbeats 4000000
set_option maxRecDepth 100000
theorem Kh (f:Zj)(a:Int):Jp f [a]=Zw f a:=by simp [Jp,upB,List.range,List.range.loop]
theorem Zpt (f:Zj)(a b:Int):Jp f [a,b]=(Zw f a&&Zw f b):=by simp [Jp,upB,List.range,List.range.loop]
theorem Mz (f:Zj)(a b c:Int):Jp f [a,b,c]=(Zw f a&&(Zw f b&&Zw f c)):=by simp [Jp,upB,List.range,List.range.loop]
structure ScD (w:World)(p:Zk)(f:Zj)(fv ev pv hv sv bv:Value)(A E:Nat->Array Value)(B:Nat->Value):Prop where
 prog:Mo w fv ev p A E
 func:Id w f pv hv sv bv B
theorem ScD.below {w w':World}{p:Zk}{f:Zj}{fv ev pv hv sv bv:Value}{A E:Nat->Array Value}{B:Nat->Value}(h:ScD w p f fv ev pv hv sv bv A E B)(hb:Below w.heap.size w w'):ScD w' p f fv ev pv hv sv bv A E B:=⟨h.prog.below hb,h.func.below hb⟩
structure Zss (p:Zk)(f:Zj):Prop where
 slots:Jv f.slots 1 8=true
 funcs:∀ k,k<p.funcs.length->(p.funcs.getD k Zh).params.length<=8∧(p.funcs.getD k Zh).results<=4
 externs:∀ k,k<p.externs.length->(p.externs.getD k ([],0)).2<=4
theorem Li.list {w:World}(ns:List Int)(hs:ns.length<Xe):Li (w.alloc (.cells (ns.map fun n=>Value.int .i64 n).toArray 3 (0,0))) (.slice (some ⟨w.heap.size,0,none⟩) ns.length ns.length) ns:=Li.new (heap_alloc_new w _) hs
abbrev FfS (op:Int):Prop:=∀(p:Zk) (f:Zj) (d a bb n fx:Int) (gs:List (Int×Int)) (os:List Int) (fv ev pv hv sv bv av ov:Value) (A E:Nat->Array Value) (B:Nat->Value) (w:World),ScD w p f fv ev pv hv sv bv A E B->LS 2 w av gs.length (fun k=>La (gs.getD k (0,0)))->Li w ov os->Zss p f->0<=n∧n<18446744073709551616->Calls Tryz.prog 200 #[.agg #[fv,ev,pv,.int .i64 f.results,hv,sv,bv],.agg #[.int .i64 op,.int .i64 d,.int .i64 a,.int .i64 bb,.int .u64 n,.int .i64 fx,av,ov]] w fun e w'=>e=.returned (.bool (Zn p f ⟨op,d,a,bb,n,fx,gs,os⟩))∧Below w.heap.size w w'
theorem Mx {p:Zk}{f:Zj}{gs:List (Int×Int)}{os:List Int}{fv ev pv hv sv bv av ov:Value}{A E:Nat->Array Value}{B:Nat->Value}{w:World}(op d a bb n fx:Int)(hSC:ScD w p f fv ev pv hv sv bv A E B)(ha:LS 2 w av gs.length (fun k=>La (gs.getD k (0,0))))(ho:Li w ov os)(W:World)(hW:W=(w.alloc (.cells #[fv,ev,pv,.int .i64 f.results,hv,sv,bv] 272 (0,0))).alloc (.cells #[.int .i64 op,.int .i64 d,.int .i64 a,.int .i64 bb,.int .u64 n,.int .i64 fx,av,ov] 110 (0,0))) :
 ∃ pf cf pe ce pp cp ph ch ps cs pb cb pa ca po co,fv=.slice pf p.funcs.length cf∧ev=.slice pe p.externs.length ce∧pv=.slice pp f.params.length cp∧hv=.slice ph f.homes.length ch∧sv=.slice ps f.slots.length cs∧bv=.slice pb f.blocks.length cb∧av=.slice pa gs.length ca∧ov=.slice po os.length co∧(f.homes.length<9223372036854775808∧f.slots.length<9223372036854775808∧f.blocks.length<9223372036854775808∧p.funcs.length<9223372036854775808∧p.externs.length<9223372036854775808∧os.length<9223372036854775808)∧Hid (ScD W p f fv ev pv hv sv bv A E B)∧Hid (LS 2 W av gs.length (fun k=>La (gs.getD k (0,0))))∧Hid (Li W ov os)∧Hid (Below w.heap.size w W)∧Hid (W.heap[w.heap.size]?=some (.cells #[fv,ev,pv,.int .i64 f.results,hv,sv,bv] 272 (0,0)))∧Hid (W.heap[w.heap.size+1]?=some (.cells #[.int .i64 op,.int .i64 d,.int .i64 a,.int .i64 bb,.int .u64 n,.int .i64 fx,av,ov] 110 (0,0)))∧Hid (W.heap.size=w.heap.size+1+1):=by
 have hx:=al0 w (.cells #[fv,ev,pv,.int .i64 f.results,hv,sv,bv] 272 (0,0));generalize hW1:World.alloc w (.cells #[fv,ev,pv,.int .i64 f.results,hv,sv,bv] 272 (0,0))=W1 at hx hW;have hx2:=al0 W1 (.cells #[.int .i64 op,.int .i64 d,.int .i64 a,.int .i64 bb,.int .u64 n,.int .i64 fx,av,ov] 110 (0,0));rw [← hW] at hx2;have hs1:=hx.2.2;have hs2:=hx2.2.2;have hb12:=Zc hx.2.1 hx2.2.1 (by omega);have hr2:=hx2.1;rw [hs1] at hr2 hs2;obtain⟨pf,cf,e1⟩:=hSC.prog.fs.shape;obtain⟨pe,ce,e2⟩:=hSC.prog.es.shape;obtain⟨pp,cp,e3⟩:=hSC.func.ps.shape;obtain⟨ph,ch,e4⟩:=hSC.func.hs.shape;obtain⟨ps,cs,e5⟩:=hSC.func.ss.shape;obtain⟨pb,cb,e6⟩:=hSC.func.bs.shape;obtain⟨pa,ca,e7⟩:=ha.shape;obtain⟨po,co,e8⟩:=ho.shape;exact⟨pf,cf,pe,ce,pp,cp,ph,ch,ps,cs,pb,cb,pa,ca,po,co,e1,e2,e3,e4,e5,e6,e7,e8,⟨hSC.func.hs.lt,hSC.func.ss.lt,by obtain⟨_,_,_,_,h,_⟩:=hSC.func.bs; exact h,by obtain⟨_,_,_,_,h,_⟩:=hSC.prog.fs; exact h,by obtain⟨_,_,_,_,h,_⟩:=hSC.prog.es; exact h,ho.lt⟩,O (hSC.below hb12),O (ha.below hb12),O (ho.below hb12),O hb12,O ((hx2.2.1.block w.heap.size (by omega)).trans hx.1),O hr2,O hs2⟩
theorem Yfq:FfS 1:=by
 intro p f d a bb n fx gs os fv ev pv hv sv bv av ov A E B w hSC ha ho hF hn;obtain⟨pf,cf,pe,ce,pp,cp,ph,ch,ps,cs,pb,cb,pa,ca,po,co,rfl,rfl,rfl,rfl,rfl,rfl,rfl,rfl,⟨hl1,hl2,hl3,hl4,hl5,hl6⟩,HSC,HA,HO,HW,HR1,HR2,HZ⟩:=Mx 1 d a bb n fx hSC ha ho _ rfl;have HF:=O hF;have HNN:=O hn;clear hSC ha ho hF hn;go_enter Tryz.func200,Tryz.ntmps200
 go_wp2_with fail
 generalize World.alloc (World.alloc w _) _=W at HSC HA HO HW HR1 HR2 HZ ⊢;have hT:=J HZ;rw [← hT];refine(Yg f _ _ _ _ _ _ _ _ [d] _ ⟨_,_,rfl⟩ hl1 (Li.list (w:=W) [d] (by show 1<Xe; decide))).mono ?_;rintro e w2 ⟨rfl,hb⟩;have HB2:=O (Zc (al0 W _).2.1 hb (by simp));clear hb hT;rw [Kh];have hx:=O (show Zn p f ⟨1,d,a,bb,n,fx,gs,os⟩=Zw f d by rfl);go_wp2;go_ret;exact⟨by rw [J hx]; rfl,Zc (J HW) (J HB2) (by have:=J HZ; omega)⟩
theorem Yfr:FfS 2:=by
 intro p f d a bb n fx gs os fv ev pv hv sv bv av ov A E B w hSC ha ho hF hn;obtain⟨pf,cf,pe,ce,pp,cp,ph,ch,ps,cs,pb,cb,pa,ca,po,co,rfl,rfl,rfl,rfl,rfl,rfl,rfl,rfl,⟨hl1,hl2,hl3,hl4,hl5,hl6⟩,HSC,HA,HO,HW,HR1,HR2,HZ⟩:=Mx 2 d a bb n fx hSC ha ho _ rfl;have HF:=O hF;have HNN:=O hn;clear hSC ha ho hF hn;go_enter Tryz.func200,Tryz.ntmps200
 go_wp2_with fail
 generalize World.alloc (World.alloc w _) _=W at HSC HA HO HW HR1 HR2 HZ ⊢;have hT:=J HZ;rw [← hT];refine(Yg f _ _ _ _ _ _ _ _ [d,a] _ ⟨_,_,rfl⟩ hl1 (Li.list (w:=W) [d,a] (by show 2<Xe; decide))).mono ?_;rintro e w2 ⟨rfl,hb⟩;have HB2:=O (Zc (al0 W _).2.1 hb (by simp));clear hb hT;rw [Zpt];have hx:=O (show Zn p f ⟨2,d,a,bb,n,fx,gs,os⟩=(Zw f d&&Zw f a) by rfl);go_wp2;go_ret;exact⟨by rw [J hx]; rfl,Zc (J HW) (J HB2) (by have:=J HZ; omega)⟩
theorem Yfs:FfS 3:=by
 intro p f d a bb n fx gs os fv ev pv hv sv bv av ov A E B w hSC ha ho hF hn;obtain⟨pf,cf,pe,ce,pp,cp,ph,ch,ps,cs,pb,cb,pa,ca,po,co,rfl,rfl,rfl,rfl,rfl,rfl,rfl,rfl,⟨hl1,hl2,hl3,hl4,hl5,hl6⟩,HSC,HA,HO,HW,HR1,HR2,HZ⟩:=Mx 3 d a bb n fx hSC ha ho _ rfl;have HF:=O hF;have HNN:=O hn;clear hSC ha ho hF hn;go_enter Tryz.func200,Tryz.ntmps200
 go_wp2_with fail
 generalize World.alloc (World.alloc w _) _=W at HSC HA HO HW HR1 HR2 HZ ⊢;have hT:=J HZ;rw [← hT];refine(Yg f _ _ _ _ _ _ _ _ [d,a,bb] _ ⟨_,_,rfl⟩ hl1 (Li.list (w:=W) [d,a,bb] (by show 3<Xe; decide))).mono ?_;rintro e w2 ⟨rfl,hb⟩;have HB2:=O (Zc (al0 W _).2.1 hb (by simp));clear hb hT;rw [Mz];have hx:=O (show Zn p f ⟨3,d,a,bb,n,fx,gs,os⟩=(Zw f d&&(Zw f a&&Zw f bb)) by rfl);go_wp2;go_ret;exact⟨by rw [J hx]; rfl,Zc (J HW) (J HB2) (by have:=J HZ; omega)⟩
theorem Yft:FfS 4:=by
 intro p f d a bb n fx gs os fv ev pv hv sv bv av ov A E B w hSC ha ho hF hn;obtain⟨pf,cf,pe,ce,pp,cp,ph,ch,ps,cs,pb,cb,pa,ca,po,co,rfl,rfl,rfl,rfl,rfl,rfl,rfl,rfl,⟨hl1,hl2,hl3,hl4,hl5,hl6⟩,HSC,HA,HO,HW,HR1,HR2,HZ⟩:=Mx 4 d a bb n fx hSC ha ho _ rfl;have HF:=O hF;have HNN:=O hn;clear hSC ha ho hF hn;go_enter Tryz.func200,Tryz.ntmps200
 go_wp2_with fail
 generalize World.alloc (World.alloc w _) _=W at HSC HA HO HW HR1 HR2 HZ ⊢;have hT:=J HZ;rw [← hT];refine(Yg f _ _ _ _ _ _ _ _ [d,a,bb] _ ⟨_,_,rfl⟩ hl1 (Li.list (w:=W) [d,a,bb] (by show 3<Xe; decide))).mono ?_;rintro e w2 ⟨rfl,hb⟩;have HB2:=O (Zc (al0 W _).2.1 hb (by simp));clear hb hT;rw [Mz];have hx:=O (show Zn p f ⟨4,d,a,bb,n,fx,gs,os⟩=(Zw f d&&(Zw f a&&Zw f bb)) by rfl);go_wp2;go_ret;exact⟨by rw [J hx]; rfl,Zc (J HW) (J HB2) (by have:=J HZ; omega)⟩
theorem Yfu:FfS 5:=by
 intro p f d a bb n fx gs os fv ev pv hv sv bv av ov A E B w hSC ha ho hF hn;obtain⟨pf,cf,pe,ce,pp,cp,ph,ch,ps,cs,pb,cb,pa,ca,po,co,rfl,rfl,rfl,rfl,rfl,rfl,rfl,rfl,⟨hl1,hl2,hl3,hl4,hl5,hl6⟩,HSC,HA,HO,HW,HR1,HR2,HZ⟩:=Mx 5 d a bb n fx hSC ha ho _ rfl;have HF:=O hF;have HNN:=O hn;clear hSC ha ho hF hn;go_enter Tryz.func200,Tryz.ntmps200
 go_wp2_with fail
 generalize World.alloc (World.alloc w _) _=W at HSC HA HO HW HR1 HR2 HZ ⊢;have hT:=J HZ;rw [← hT];refine(Yg f _ _ _ _ _ _ _ _ [d,a,bb] _ ⟨_,_,rfl⟩ hl1 (Li.list (w:=W) [d,a,bb] (by show 3<Xe; decide))).mono ?_;rintro e w2 ⟨rfl,hb⟩;have HB2:=O (Zc (al0 W _).2.1 hb (by simp));clear hb hT;rw [Mz];have hx:=O (show Zn p f ⟨5,d,a,bb,n,fx,gs,os⟩=(Zw f d&&(Zw f a&&Zw f bb)) by rfl);go_wp2;go_ret;exact⟨by rw [J hx]; rfl,Zc (J HW) (J HB2) (by have:=J HZ; omega)⟩
theorem Yfv:FfS 6:=by
 intro p f d a bb n fx gs os fv ev pv hv sv bv av ov A E B w hSC ha ho hF hn;obtain⟨pf,cf,pe,ce,pp,cp,ph,ch,ps,cs,pb,cb,pa,ca,po,co,rfl,rfl,rfl,rfl,rfl,rfl,rfl,rfl,⟨hl1,hl2,hl3,hl4,hl5,hl6⟩,HSC,HA,HO,HW,HR1,HR2,HZ⟩:=Mx 6 d a bb n fx hSC ha ho _ rfl;have HF:=O hF;have HNN:=O hn;clear hSC ha ho hF hn;go_enter Tryz.func200,Tryz.ntmps200
 go_wp2_with fail
 generalize World.alloc (World.alloc w _) _=W at HSC HA HO HW HR1 HR2 HZ ⊢;have hT:=J HZ;rw [← hT];refine(Yg f _ _ _ _ _ _ _ _ [d,a,bb] _ ⟨_,_,rfl⟩ hl1 (Li.list (w:=W) [d,a,bb] (by show 3<Xe; decide))).mono ?_;rintro e w2 ⟨rfl,hb⟩;have HB2:=O (Zc (al0 W _).2.1 hb (by simp));clear hb hT;rw [Mz];have hx:=O (show Zn p f ⟨6,d,a,bb,n,fx,gs,os⟩=(Zw f d&&(Zw f a&&Zw f bb)) by rfl);go_wp2;go_ret;exact⟨by rw [J hx]; rfl,Zc (J HW) (J HB2) (by have:=J HZ; omega)⟩
theorem Yfw:FfS 7:=by
 intro p f d a bb n fx gs os fv ev pv hv sv bv av ov A E B w hSC ha ho hF hn;obtain⟨pf,cf,pe,ce,pp,cp,ph,ch,ps,cs,pb,cb,pa,ca,po,co,rfl,rfl,rfl,rfl,rfl,rfl,rfl,rfl,⟨hl1,hl2,hl3,hl4,hl5,hl6⟩,HSC,HA,HO,HW,HR1,HR2,HZ⟩:=Mx 7 d a bb n fx hSC ha ho _ rfl;have HF:=O hF;have HNN:=O hn;clear hSC ha ho hF hn;go_enter Tryz.func200,Tryz.ntmps200
 go_wp2_with fail
 generalize World.alloc (World.alloc w _) _=W at HSC HA HO HW HR1 HR2 HZ ⊢;have hT:=J HZ;rw [← hT];refine(Yg f _ _ _ _ _ _ _ _ [d,a,bb] _ ⟨_,_,rfl⟩ hl1 (Li.list (w:=W) [d,a,bb] (by show 3<Xe; decide))).mono ?_;rintro e w2 ⟨rfl,hb⟩;have HB2:=O (Zc (al0 W _).2.1 hb (by simp));clear hb hT;rw [Mz];have hx:=O (show Zn p f ⟨7,d,a,bb,n,fx,gs,os⟩=(Zw f d&&(Zw f a&&Zw f bb)) by rfl);go_wp2;go_ret;exact⟨by rw [J hx]; rfl,Zc (J HW) (J HB2) (by have:=J HZ; omega)⟩
theorem Yfx:FfS 8:=by
 intro p f d a bb n fx gs os fv ev pv hv sv bv av ov A E B w hSC ha ho hF hn;obtain⟨pf,cf,pe,ce,pp,cp,ph,ch,ps,cs,pb,cb,pa,ca,po,co,rfl,rfl,rfl,rfl,rfl,rfl,rfl,rfl,⟨hl1,hl2,hl3,hl4,hl5,hl6⟩,HSC,HA,HO,HW,HR1,HR2,HZ⟩:=Mx 8 d a bb n fx hSC ha ho _ rfl;have HF:=O hF;have HNN:=O hn;clear hSC ha ho hF hn;go_enter Tryz.func200,Tryz.ntmps200
 go_wp2_with fail
 generalize World.alloc (World.alloc w _) _=W at HSC HA HO HW HR1 HR2 HZ ⊢;have hT:=J HZ;rw [← hT];refine(Yg f _ _ _ _ _ _ _ _ [d,a,bb] _ ⟨_,_,rfl⟩ hl1 (Li.list (w:=W) [d,a,bb] (by show 3<Xe; decide))).mono ?_;rintro e w2 ⟨rfl,hb⟩;have HB2:=O (Zc (al0 W _).2.1 hb (by simp));clear hb hT;rw [Mz];have hx:=O (show Zn p f ⟨8,d,a,bb,n,fx,gs,os⟩=(Zw f d&&(Zw f a&&Zw f bb)) by rfl);go_wp2;go_ret;exact⟨by rw [J hx]; rfl,Zc (J HW) (J HB2) (by have:=J HZ; omega)⟩
theorem Yfy:FfS 9:=by
 intro p f d a bb n fx gs os fv ev pv hv sv bv av ov A E B w hSC ha ho hF hn;obtain⟨pf,cf,pe,ce,pp,cp,ph,ch,ps,cs,pb,cb,pa,ca,po,co,rfl,rfl,rfl,rfl,rfl,rfl,rfl,rfl,⟨hl1,hl2,hl3,hl4,hl5,hl6⟩,HSC,HA,HO,HW,HR1,HR2,HZ⟩:=Mx 9 d a bb n fx hSC ha ho _ rfl;have HF:=O hF;have HNN:=O hn;clear hSC ha ho hF hn;go_enter Tryz.func200,Tryz.ntmps200
 go_wp2_with fail
 generalize World.alloc (World.alloc w _) _=W at HSC HA HO HW HR1 HR2 HZ ⊢;have hT:=J HZ;rw [← hT];refine(Yg f _ _ _ _ _ _ _ _ [d,a,bb] _ ⟨_,_,rfl⟩ hl1 (Li.list (w:=W) [d,a,bb] (by show 3<Xe; decide))).mono ?_;rintro e w2 ⟨rfl,hb⟩;have HB2:=O (Zc (al0 W _).2.1 hb (by simp));clear hb hT;rw [Mz];have hx:=O (show Zn p f ⟨9,d,a,bb,n,fx,gs,os⟩=(Zw f d&&(Zw f a&&Zw f bb)) by rfl);go_wp2;go_ret;exact⟨by rw [J hx]; rfl,Zc (J HW) (J HB2) (by have:=J HZ; omega)⟩
theorem Ycr:FfS 14:=by
 intro p f d a bb n fx gs os fv ev pv hv sv bv av ov A E B w hSC ha ho hF hn;obtain⟨pf,cf,pe,ce,pp,cp,ph,ch,ps,cs,pb,cb,pa,ca,po,co,rfl,rfl,rfl,rfl,rfl,rfl,rfl,rfl,⟨hl1,hl2,hl3,hl4,hl5,hl6⟩,HSC,HA,HO,HW,HR1,HR2,HZ⟩:=Mx 14 d a bb n fx hSC ha ho _ rfl;have HF:=O hF;have HNN:=O hn;clear hSC ha ho hF hn;go_enter Tryz.func200,Tryz.ntmps200
 go_wp2_with fail
 generalize World.alloc (World.alloc w _) _=W at HSC HA HO HW HR1 HR2 HZ ⊢;refine(Ci f _ _ _ _ _ _ _ _ _ W hl3).mono ?_;rintro e w2 ⟨rfl,hb⟩;have HB2:=O hb;clear hb;have hx:=O (show Zn p f ⟨14,d,a,bb,n,fx,gs,os⟩=Xl a 0 (f.blocks.length-1) by rfl);go_wp2;go_ret;exact⟨by rw [J hx]; rfl,Zc (J HW) (J HB2) (by have:=J HZ; omega)⟩
theorem Ycs:FfS 18:=by
 intro p f d a bb n fx gs os fv ev pv hv sv bv av ov A E B w hSC ha ho hF hn;obtain⟨pf,cf,pe,ce,pp,cp,ph,ch,ps,cs,pb,cb,pa,ca,po,co,rfl,rfl,rfl,rfl,rfl,rfl,rfl,rfl,⟨hl1,hl2,hl3,hl4,hl5,hl6⟩,HSC,HA,HO,HW,HR1,HR2,HZ⟩:=Mx 18 d a bb n fx hSC ha ho _ rfl;have HF:=O hF;have HNN:=O hn;clear hSC ha ho hF hn;go_enter Tryz.func200,Tryz.ntmps200
 go_wp2;go_ret;exact⟨rfl,J HW⟩
theorem Yct:FfS 15:=by
 intro p f d a bb n fx gs os fv ev pv hv sv bv av ov A E B w hSC ha ho hF hn;obtain⟨pf,cf,pe,ce,pp,cp,ph,ch,ps,cs,pb,cb,pa,ca,po,co,rfl,rfl,rfl,rfl,rfl,rfl,rfl,rfl,⟨hl1,hl2,hl3,hl4,hl5,hl6⟩,HSC,HA,HO,HW,HR1,HR2,HZ⟩:=Mx 15 d a bb n fx hSC ha ho _ rfl;have HF:=O hF;have HNN:=O hn;clear hSC ha ho hF hn;go_enter Tryz.func200,Tryz.ntmps200
 go_wp2_with fail
 generalize World.alloc (World.alloc w _) _=W at HSC HA HO HW HR1 HR2 HZ ⊢;have hT:=J HZ;rw [← hT];refine(Yg f _ _ _ _ _ _ _ _ [d] _ ⟨_,_,rfl⟩ hl1 (Li.list (w:=W) [d] (by show 1<Xe; decide))).mono ?_;rintro e w2 ⟨rfl,hb⟩;have HB2:=O (Zc (al0 W _).2.1 hb (by simp));clear hb hT;rw [Kh];have hz:=J HZ;have hrs:=((J HB2).block w.heap.size (by omega)).trans (J HR1);have hri:=((J HB2).block (w.heap.size+1) (by omega)).trans (J HR2);obtain⟨s0,s1,s2,s3,s4,s5,s6⟩:=cT7 hrs;obtain⟨i0,i1,i2,i3,i4,i5,i6,i7⟩:=cT8 hri;clear hz hrs hri;cases h1:Zw f d with
 | false=>have hx:=O (show Zn p f ⟨15,d,a,bb,n,fx,gs,os⟩=false by unfold Zn; simp [h1]);go_wp2;go_ret;exact⟨by rw [J hx]; rfl,Zc (J HW) (J HB2) (by have:=J HZ; omega)⟩
 | true =>
  have H1:=O h1;clear h1;go_wp2_with fail
  refine(Ci f _ _ _ _ _ _ _ _ a w2 hl3).mono ?_;rintro e w3 ⟨rfl,hb⟩;have HB3:=O (Zc (J HB2) hb (J HB2).size);clear hb s0 s1 s2 s3 s4 s5 s6 i0 i1 i2 i3 i4 i5 i6 i7;have hz:=J HZ;have hrs:=((J HB3).block w.heap.size (by omega)).trans (J HR1);have hri:=((J HB3).block (w.heap.size+1) (by omega)).trans (J HR2);obtain⟨s0,s1,s2,s3,s4,s5,s6⟩:=cT7 hrs;obtain⟨i0,i1,i2,i3,i4,i5,i6,i7⟩:=cT8 hri;clear hz hrs hri;cases h2:Xl a 0 (f.blocks.length-1) with
  | false=>have hx:=O (show Zn p f ⟨15,d,a,bb,n,fx,gs,os⟩=false by unfold Zn; simp [h2]);go_wp2;go_ret;exact⟨by rw [J hx]; rfl,Zc (J HW) (J HB3) (by have:=J HZ; omega)⟩
  | true =>
   have H2:=O h2;clear h2;go_wp2_with fail
   refine(Ci f _ _ _ _ _ _ _ _ bb w3 hl3).mono ?_;rintro e w4 ⟨rfl,hb⟩;have HB4:=O (Zc (J HB3) hb (J HB3).size);clear hb;have hx:=O (show Zn p f ⟨15,d,a,bb,n,fx,gs,os⟩=Xl bb 0 (f.blocks.length-1) by unfold Zn; simp [J H1,J H2]);go_wp2;go_ret;exact⟨by rw [J hx]; rfl,Zc (J HW) (J HB4) (by have:=J HZ; omega)⟩
theorem Ycu:FfS 10:=by
 intro p f d a bb n fx gs os fv ev pv hv sv bv av ov A E B w hSC ha ho hF hn;obtain⟨pf,cf,pe,ce,pp,cp,ph,ch,ps,cs,pb,cb,pa,ca,po,co,rfl,rfl,rfl,rfl,rfl,rfl,rfl,rfl,⟨hl1,hl2,hl3,hl4,hl5,hl6⟩,HSC,HA,HO,HW,HR1,HR2,HZ⟩:=Mx 10 d a bb n fx hSC ha ho _ rfl;have HF:=O hF;have HNN:=O hn;clear hSC ha ho hF hn;go_enter Tryz.func200,Tryz.ntmps200
 go_wp2_with fail
 generalize World.alloc (World.alloc w _) _=W at HSC HA HO HW HR1 HR2 HZ ⊢;have hT:=J HZ;rw [← hT];refine(Yg f _ _ _ _ _ _ _ _ [d] _ ⟨_,_,rfl⟩ hl1 (Li.list (w:=W) [d] (by show 1<Xe; decide))).mono ?_;rintro e w2 ⟨rfl,hb⟩;have HB2:=O (Zc (al0 W _).2.1 hb (by simp));clear hb hT;rw [Kh];have hz:=J HZ;have hrs:=((J HB2).block w.heap.size (by omega)).trans (J HR1);have hri:=((J HB2).block (w.heap.size+1) (by omega)).trans (J HR2);obtain⟨s0,s1,s2,s3,s4,s5,s6⟩:=cT7 hrs;obtain⟨i0,i1,i2,i3,i4,i5,i6,i7⟩:=cT8 hri;clear hz hrs hri;cases h1:Zw f d with
 | false=>have hx:=O (show Zn p f ⟨10,d,a,bb,n,fx,gs,os⟩=false by unfold Zn; simp [h1]);go_wp2;go_ret;exact⟨by rw [J hx]; rfl,Zc (J HW) (J HB2) (by have:=J HZ; omega)⟩
 | true =>
  have H1:=O h1;clear h1;go_wp2_with fail
  refine(Zfe f ⟨10,d,a,bb,n,fx,gs,os⟩ _ _ _ _ _ _ _ _ _ w2 ((J HSC).below (J HB2)).func.ss (J HF).slots (J HNN)).mono ?_;rintro e w3 ⟨rfl,hb⟩;have HB3:=O (Zc (J HB2) hb (J HB2).size);clear hb;have hx:=O (show Zn p f ⟨10,d,a,bb,n,fx,gs,os⟩=Kw f ⟨10,d,a,bb,n,fx,gs,os⟩ by unfold Zn; simp [J H1]);go_wp2;go_ret;exact⟨by rw [J hx]; rfl,Zc (J HW) (J HB3) (by have:=J HZ; omega)⟩
theorem Ycv:FfS 11:=by
 intro p f d a bb n fx gs os fv ev pv hv sv bv av ov A E B w hSC ha ho hF hn;obtain⟨pf,cf,pe,ce,pp,cp,ph,ch,ps,cs,pb,cb,pa,ca,po,co,rfl,rfl,rfl,rfl,rfl,rfl,rfl,rfl,⟨hl1,hl2,hl3,hl4,hl5,hl6⟩,HSC,HA,HO,HW,HR1,HR2,HZ⟩:=Mx 11 d a bb n fx hSC ha ho _ rfl;have HF:=O hF;have HNN:=O hn;clear hSC ha ho hF hn;go_enter Tryz.func200,Tryz.ntmps200
 go_wp2_with fail
 generalize World.alloc (World.alloc w _) _=W at HSC HA HO HW HR1 HR2 HZ ⊢;have hT:=J HZ;rw [← hT];refine(Yg f _ _ _ _ _ _ _ _ [d] _ ⟨_,_,rfl⟩ hl1 (Li.list (w:=W) [d] (by show 1<Xe; decide))).mono ?_;rintro e w2 ⟨rfl,hb⟩;have HB2:=O (Zc (al0 W _).2.1 hb (by simp));clear hb hT;rw [Kh];have hz:=J HZ;have hrs:=((J HB2).block w.heap.size (by omega)).trans (J HR1);have hri:=((J HB2).block (w.heap.size+1) (by omega)).trans (J HR2);obtain⟨s0,s1,s2,s3,s4,s5,s6⟩:=cT7 hrs;obtain⟨i0,i1,i2,i3,i4,i5,i6,i7⟩:=cT8 hri;clear hz hrs hri;cases h1:Zw f d with
 | false=>have hx:=O (show Zn p f ⟨11,d,a,bb,n,fx,gs,os⟩=false by unfold Zn; simp [h1]);go_wp2;go_ret;exact⟨by rw [J hx]; rfl,Zc (J HW) (J HB2) (by have:=J HZ; omega)⟩
 | true =>
  have H1:=O h1;clear h1;go_wp2_with fail
  refine(Zfe f ⟨11,d,a,bb,n,fx,gs,os⟩ _ _ _ _ _ _ _ _ _ w2 ((J HSC).below (J HB2)).func.ss (J HF).slots (J HNN)).mono ?_;rintro e w3 ⟨rfl,hb⟩;have HB3:=O (Zc (J HB2) hb (J HB2).size);clear hb;have hx:=O (show Zn p f ⟨11,d,a,bb,n,fx,gs,os⟩=Kw f ⟨11,d,a,bb,n,fx,gs,os⟩ by unfold Zn; simp [J H1]);go_wp2;go_ret;exact⟨by rw [J hx]; rfl,Zc (J HW) (J HB3) (by have:=J HZ; omega)⟩
theorem Ycw:FfS 16:=by
 intro p f d a bb n fx gs os fv ev pv hv sv bv av ov A E B w hSC ha ho hF hn;obtain⟨pf,cf,pe,ce,pp,cp,ph,ch,ps,cs,pb,cb,pa,ca,po,co,rfl,rfl,rfl,rfl,rfl,rfl,rfl,rfl,⟨hl1,hl2,hl3,hl4,hl5,hl6⟩,HSC,HA,HO,HW,HR1,HR2,HZ⟩:=Mx 16 d a bb n fx hSC ha ho _ rfl;have HF:=O hF;have HNN:=O hn;clear hSC ha ho hF hn;go_enter Tryz.func200,Tryz.ntmps200
 by_cases h1:(os.length:Int)=f.results
 ·have z1:((os.length:Int)==f.results)=true:=by simpa using h1
  go_wp2_with fail
  generalize World.alloc (World.alloc w _) _=W at HSC HA HO HW HR1 HR2 HZ ⊢;refine(Yg f _ _ _ _ _ _ _ _ os W ⟨_,_,rfl⟩ hl1 (J HO)).mono ?_;rintro e w2 ⟨rfl,hb⟩;have HB2:=O hb;clear hb;have hx:=O (show Zn p f ⟨16,d,a,bb,n,fx,gs,os⟩=Jp f os by unfold Zn; simp [h1]);go_wp2;go_ret;exact⟨by rw [J hx]; rfl,Zc (J HW) (J HB2) (by have:=J HZ; omega)⟩
 ·have z1:((os.length:Int)==f.results)=false:=by simpa using h1
  have hx:=O (show Zn p f ⟨16,d,a,bb,n,fx,gs,os⟩=false by unfold Zn; simp [h1]);clear h1;go_wp2;go_ret;exact⟨by rw [J hx]; rfl,J HW⟩
end Go.Proofs.YtkenknfgeoecbaaGreatDoor
