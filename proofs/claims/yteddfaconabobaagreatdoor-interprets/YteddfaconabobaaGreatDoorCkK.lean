import Derived.Test.YteddfaconabobaaGreatDoorPk
import Derived.Test.YteddfaconabobaaGreatDoorJ7
namespace Go.Proofs.YteddfaconabobaaGreatDoor
open Go.RowKit
theorem Gb (f:Zn)(a:Int):Xg f [a]=Zr f a:=by simp [Xg,De,List.range,List.range.loop]
theorem Iv (f:Zn)(a b:Int):Xg f [a,b]=(Zr f a&&Zr f b):=by simp [Xg,De,List.range,List.range.loop]
theorem Lf (f:Zn)(a b c:Int):Xg f [a,b,c]=(Zr f a&&(Zr f b&&Zr f c)):=by simp [Xg,De,List.range,List.range.loop]
structure ScD (w:World)(p:Zl)(f:Zn)(fv ev pv hv sv bv:Value)(A E:Nat→Array Value)(B:Nat→Value):Prop where
 prog:Lm w fv ev p A E
 func:Ng w f pv hv sv bv B
theorem ScD.below {w w':World}{p:Zl}{f:Zn}{fv ev pv hv sv bv:Value}{A E:Nat→Array Value}{B:Nat→Value}(h:ScD w p f fv ev pv hv sv bv A E B)(hb:Below w.heap.size w w'):ScD w' p f fv ev pv hv sv bv A E B:=⟨h.prog.below hb,h.func.below hb⟩
structure Kh (p:Zl)(f:Zn):Prop where
 slots:Jd f.slots 1 8=true
 funcs:∀ k,k<p.funcs.length→(p.funcs.getD k Ze).params.length≤8∧(p.funcs.getD k Ze).results≤4
 externs:∀ k,k<p.externs.length→(p.externs.getD k ([],0)).2≤4
theorem Li.list {w:World}(ns:List Int)(hs:ns.length<Xa):Li (w.alloc (.cells (ns.map fun n=>Value.int .i64 n).toArray 3 (0,0))) (.slice (some ⟨w.heap.size,0,none⟩) ns.length ns.length) ns:=Li.new (heap_alloc_new w _) hs
abbrev FfS (op:Int):Prop:=∀(p:Zl) (f:Zn) (d a bb n fx:Int) (gs:List (Int×Int)) (os:List Int) (fv ev pv hv sv bv av ov:Value) (A E:Nat→Array Value) (B:Nat→Value) (w:World),ScD w p f fv ev pv hv sv bv A E B→LS 2 w av gs.length (fun k=>Yz (gs.getD k (0,0)))→Li w ov os→Kh p f→0≤n∧n<18446744073709551616→Calls Tryz.prog 102 #[.agg #[fv,ev,pv,.int .i64 f.results,hv,sv,bv],.agg #[.int .i64 op,.int .i64 d,.int .i64 a,.int .i64 bb,.int .u64 n,.int .i64 fx,av,ov]] w fun e w'=>e=.returned (.bool (Zf p f ⟨op,d,a,bb,n,fx,gs,os⟩))∧Below w.heap.size w w'
theorem Ls {p:Zl}{f:Zn}{gs:List (Int×Int)}{os:List Int}{fv ev pv hv sv bv av ov:Value}{A E:Nat→Array Value}{B:Nat→Value}{w:World}(op d a bb n fx:Int)(hSC:ScD w p f fv ev pv hv sv bv A E B)(ha:LS 2 w av gs.length (fun k=>Yz (gs.getD k (0,0))))(ho:Li w ov os)(W:World)(hW:W=(w.alloc (.cells #[fv,ev,pv,.int .i64 f.results,hv,sv,bv] 173 (0,0))).alloc (.cells #[.int .i64 op,.int .i64 d,.int .i64 a,.int .i64 bb,.int .u64 n,.int .i64 fx,av,ov] 65 (0,0))) :
 ∃ pf cf pe ce pp cp ph ch ps cs pb cb pa ca po co,fv=.slice pf p.funcs.length cf∧ev=.slice pe p.externs.length ce∧pv=.slice pp f.params.length cp∧hv=.slice ph f.homes.length ch∧sv=.slice ps f.slots.length cs∧bv=.slice pb f.blocks.length cb∧av=.slice pa gs.length ca∧ov=.slice po os.length co∧(f.homes.length<9223372036854775808∧f.slots.length<9223372036854775808∧f.blocks.length<9223372036854775808∧p.funcs.length<9223372036854775808∧p.externs.length<9223372036854775808∧os.length<9223372036854775808)∧Hid (ScD W p f fv ev pv hv sv bv A E B)∧Hid (LS 2 W av gs.length (fun k=>Yz (gs.getD k (0,0))))∧Hid (Li W ov os)∧Hid (Below w.heap.size w W)∧Hid (W.heap[w.heap.size]?=some (.cells #[fv,ev,pv,.int .i64 f.results,hv,sv,bv] 173 (0,0)))∧Hid (W.heap[w.heap.size+1]?=some (.cells #[.int .i64 op,.int .i64 d,.int .i64 a,.int .i64 bb,.int .u64 n,.int .i64 fx,av,ov] 65 (0,0)))∧Hid (W.heap.size=w.heap.size+1+1):=by
 have hx:=Yj w (.cells #[fv,ev,pv,.int .i64 f.results,hv,sv,bv] 173 (0,0));generalize hW1:World.alloc w (.cells #[fv,ev,pv,.int .i64 f.results,hv,sv,bv] 173 (0,0))=W1 at hx hW;have hx2:=Yj W1 (.cells #[.int .i64 op,.int .i64 d,.int .i64 a,.int .i64 bb,.int .u64 n,.int .i64 fx,av,ov] 65 (0,0));rw [← hW] at hx2;have hs1:=hx.2.2;have hs2:=hx2.2.2;have hb12:=Za hx.2.1 hx2.2.1 (by omega);have hr2:=hx2.1;rw [hs1] at hr2 hs2;obtain⟨pf,cf,e1⟩:=hSC.prog.fs.shape;obtain⟨pe,ce,e2⟩:=hSC.prog.es.shape;obtain⟨pp,cp,e3⟩:=hSC.func.ps.shape;obtain⟨ph,ch,e4⟩:=hSC.func.hs.shape;obtain⟨ps,cs,e5⟩:=hSC.func.ss.shape;obtain⟨pb,cb,e6⟩:=hSC.func.bs.shape;obtain⟨pa,ca,e7⟩:=ha.shape;obtain⟨po,co,e8⟩:=ho.shape;exact⟨pf,cf,pe,ce,pp,cp,ph,ch,ps,cs,pb,cb,pa,ca,po,co,e1,e2,e3,e4,e5,e6,e7,e8,⟨hSC.func.hs.lt,hSC.func.ss.lt,by obtain⟨_,_,_,_,h,_⟩:=hSC.func.bs; exact h,by obtain⟨_,_,_,_,h,_⟩:=hSC.prog.fs; exact h,by obtain⟨_,_,_,_,h,_⟩:=hSC.prog.es; exact h,ho.lt⟩,J (hSC.below hb12),J (ha.below hb12),J (ho.below hb12),J hb12,J ((hx2.2.1.block w.heap.size (by omega)).trans hx.1),J hr2,J hs2⟩
set_option maxHeartbeats 4000000 in
set_option maxRecDepth 100000 in
theorem Zoo:FfS 1:=by
 intro p f d a bb n fx gs os fv ev pv hv sv bv av ov A E B w hSC ha ho hF hn;obtain⟨pf,cf,pe,ce,pp,cp,ph,ch,ps,cs,pb,cb,pa,ca,po,co,rfl,rfl,rfl,rfl,rfl,rfl,rfl,rfl,⟨hl1,hl2,hl3,hl4,hl5,hl6⟩,HSC,HA,HO,HW,HR1,HR2,HZ⟩:=Ls 1 d a bb n fx hSC ha ho _ rfl;have HF:=J hF;have HNN:=J hn;clear hSC ha ho hF hn;go_enter Tryz.func102,Tryz.ntmps102
 go_wp2_with fail
 generalize World.alloc (World.alloc w _) _=W at HSC HA HO HW HR1 HR2 HZ ⊢;have hT:=G HZ;rw [← hT];refine(Yo f _ _ _ _ _ _ _ _ [d] _ ⟨_,_,rfl⟩ hl1 (Li.list (w:=W) [d] (by show 1<Xa; decide))).mono ?_;rintro e w2 ⟨rfl,hb⟩;have HB2:=J (Za (Yj W _).2.1 hb (by simp));clear hb hT;rw [Gb];have hx:=J (show Zf p f ⟨1,d,a,bb,n,fx,gs,os⟩=Zr f d by rfl);go_wp2;go_ret;exact⟨by rw [G hx]; rfl,Za (G HW) (G HB2) (by have:=G HZ; omega)⟩
set_option maxHeartbeats 4000000 in
set_option maxRecDepth 100000 in
theorem Zop:FfS 2:=by
 intro p f d a bb n fx gs os fv ev pv hv sv bv av ov A E B w hSC ha ho hF hn;obtain⟨pf,cf,pe,ce,pp,cp,ph,ch,ps,cs,pb,cb,pa,ca,po,co,rfl,rfl,rfl,rfl,rfl,rfl,rfl,rfl,⟨hl1,hl2,hl3,hl4,hl5,hl6⟩,HSC,HA,HO,HW,HR1,HR2,HZ⟩:=Ls 2 d a bb n fx hSC ha ho _ rfl;have HF:=J hF;have HNN:=J hn;clear hSC ha ho hF hn;go_enter Tryz.func102,Tryz.ntmps102
 go_wp2_with fail
 generalize World.alloc (World.alloc w _) _=W at HSC HA HO HW HR1 HR2 HZ ⊢;have hT:=G HZ;rw [← hT];refine(Yo f _ _ _ _ _ _ _ _ [d,a] _ ⟨_,_,rfl⟩ hl1 (Li.list (w:=W) [d,a] (by show 2<Xa; decide))).mono ?_;rintro e w2 ⟨rfl,hb⟩;have HB2:=J (Za (Yj W _).2.1 hb (by simp));clear hb hT;rw [Iv];have hx:=J (show Zf p f ⟨2,d,a,bb,n,fx,gs,os⟩=(Zr f d&&Zr f a) by rfl);go_wp2;go_ret;exact⟨by rw [G hx]; rfl,Za (G HW) (G HB2) (by have:=G HZ; omega)⟩
set_option maxHeartbeats 4000000 in
set_option maxRecDepth 100000 in
theorem Zoq:FfS 3:=by
 intro p f d a bb n fx gs os fv ev pv hv sv bv av ov A E B w hSC ha ho hF hn;obtain⟨pf,cf,pe,ce,pp,cp,ph,ch,ps,cs,pb,cb,pa,ca,po,co,rfl,rfl,rfl,rfl,rfl,rfl,rfl,rfl,⟨hl1,hl2,hl3,hl4,hl5,hl6⟩,HSC,HA,HO,HW,HR1,HR2,HZ⟩:=Ls 3 d a bb n fx hSC ha ho _ rfl;have HF:=J hF;have HNN:=J hn;clear hSC ha ho hF hn;go_enter Tryz.func102,Tryz.ntmps102
 go_wp2_with fail
 generalize World.alloc (World.alloc w _) _=W at HSC HA HO HW HR1 HR2 HZ ⊢;have hT:=G HZ;rw [← hT];refine(Yo f _ _ _ _ _ _ _ _ [d,a,bb] _ ⟨_,_,rfl⟩ hl1 (Li.list (w:=W) [d,a,bb] (by show 3<Xa; decide))).mono ?_;rintro e w2 ⟨rfl,hb⟩;have HB2:=J (Za (Yj W _).2.1 hb (by simp));clear hb hT;rw [Lf];have hx:=J (show Zf p f ⟨3,d,a,bb,n,fx,gs,os⟩=(Zr f d&&(Zr f a&&Zr f bb)) by rfl);go_wp2;go_ret;exact⟨by rw [G hx]; rfl,Za (G HW) (G HB2) (by have:=G HZ; omega)⟩
set_option maxHeartbeats 4000000 in
set_option maxRecDepth 100000 in
theorem Zor:FfS 4:=by
 intro p f d a bb n fx gs os fv ev pv hv sv bv av ov A E B w hSC ha ho hF hn;obtain⟨pf,cf,pe,ce,pp,cp,ph,ch,ps,cs,pb,cb,pa,ca,po,co,rfl,rfl,rfl,rfl,rfl,rfl,rfl,rfl,⟨hl1,hl2,hl3,hl4,hl5,hl6⟩,HSC,HA,HO,HW,HR1,HR2,HZ⟩:=Ls 4 d a bb n fx hSC ha ho _ rfl;have HF:=J hF;have HNN:=J hn;clear hSC ha ho hF hn;go_enter Tryz.func102,Tryz.ntmps102
 go_wp2_with fail
 generalize World.alloc (World.alloc w _) _=W at HSC HA HO HW HR1 HR2 HZ ⊢;have hT:=G HZ;rw [← hT];refine(Yo f _ _ _ _ _ _ _ _ [d,a,bb] _ ⟨_,_,rfl⟩ hl1 (Li.list (w:=W) [d,a,bb] (by show 3<Xa; decide))).mono ?_;rintro e w2 ⟨rfl,hb⟩;have HB2:=J (Za (Yj W _).2.1 hb (by simp));clear hb hT;rw [Lf];have hx:=J (show Zf p f ⟨4,d,a,bb,n,fx,gs,os⟩=(Zr f d&&(Zr f a&&Zr f bb)) by rfl);go_wp2;go_ret;exact⟨by rw [G hx]; rfl,Za (G HW) (G HB2) (by have:=G HZ; omega)⟩
set_option maxHeartbeats 4000000 in
set_option maxRecDepth 100000 in
theorem Zos:FfS 5:=by
 intro p f d a bb n fx gs os fv ev pv hv sv bv av ov A E B w hSC ha ho hF hn;obtain⟨pf,cf,pe,ce,pp,cp,ph,ch,ps,cs,pb,cb,pa,ca,po,co,rfl,rfl,rfl,rfl,rfl,rfl,rfl,rfl,⟨hl1,hl2,hl3,hl4,hl5,hl6⟩,HSC,HA,HO,HW,HR1,HR2,HZ⟩:=Ls 5 d a bb n fx hSC ha ho _ rfl;have HF:=J hF;have HNN:=J hn;clear hSC ha ho hF hn;go_enter Tryz.func102,Tryz.ntmps102
 go_wp2_with fail
 generalize World.alloc (World.alloc w _) _=W at HSC HA HO HW HR1 HR2 HZ ⊢;have hT:=G HZ;rw [← hT];refine(Yo f _ _ _ _ _ _ _ _ [d,a,bb] _ ⟨_,_,rfl⟩ hl1 (Li.list (w:=W) [d,a,bb] (by show 3<Xa; decide))).mono ?_;rintro e w2 ⟨rfl,hb⟩;have HB2:=J (Za (Yj W _).2.1 hb (by simp));clear hb hT;rw [Lf];have hx:=J (show Zf p f ⟨5,d,a,bb,n,fx,gs,os⟩=(Zr f d&&(Zr f a&&Zr f bb)) by rfl);go_wp2;go_ret;exact⟨by rw [G hx]; rfl,Za (G HW) (G HB2) (by have:=G HZ; omega)⟩
set_option maxHeartbeats 4000000 in
set_option maxRecDepth 100000 in
theorem Zot:FfS 6:=by
 intro p f d a bb n fx gs os fv ev pv hv sv bv av ov A E B w hSC ha ho hF hn;obtain⟨pf,cf,pe,ce,pp,cp,ph,ch,ps,cs,pb,cb,pa,ca,po,co,rfl,rfl,rfl,rfl,rfl,rfl,rfl,rfl,⟨hl1,hl2,hl3,hl4,hl5,hl6⟩,HSC,HA,HO,HW,HR1,HR2,HZ⟩:=Ls 6 d a bb n fx hSC ha ho _ rfl;have HF:=J hF;have HNN:=J hn;clear hSC ha ho hF hn;go_enter Tryz.func102,Tryz.ntmps102
 go_wp2_with fail
 generalize World.alloc (World.alloc w _) _=W at HSC HA HO HW HR1 HR2 HZ ⊢;have hT:=G HZ;rw [← hT];refine(Yo f _ _ _ _ _ _ _ _ [d,a,bb] _ ⟨_,_,rfl⟩ hl1 (Li.list (w:=W) [d,a,bb] (by show 3<Xa; decide))).mono ?_;rintro e w2 ⟨rfl,hb⟩;have HB2:=J (Za (Yj W _).2.1 hb (by simp));clear hb hT;rw [Lf];have hx:=J (show Zf p f ⟨6,d,a,bb,n,fx,gs,os⟩=(Zr f d&&(Zr f a&&Zr f bb)) by rfl);go_wp2;go_ret;exact⟨by rw [G hx]; rfl,Za (G HW) (G HB2) (by have:=G HZ; omega)⟩
set_option maxHeartbeats 4000000 in
set_option maxRecDepth 100000 in
theorem Zou:FfS 7:=by
 intro p f d a bb n fx gs os fv ev pv hv sv bv av ov A E B w hSC ha ho hF hn;obtain⟨pf,cf,pe,ce,pp,cp,ph,ch,ps,cs,pb,cb,pa,ca,po,co,rfl,rfl,rfl,rfl,rfl,rfl,rfl,rfl,⟨hl1,hl2,hl3,hl4,hl5,hl6⟩,HSC,HA,HO,HW,HR1,HR2,HZ⟩:=Ls 7 d a bb n fx hSC ha ho _ rfl;have HF:=J hF;have HNN:=J hn;clear hSC ha ho hF hn;go_enter Tryz.func102,Tryz.ntmps102
 go_wp2_with fail
 generalize World.alloc (World.alloc w _) _=W at HSC HA HO HW HR1 HR2 HZ ⊢;have hT:=G HZ;rw [← hT];refine(Yo f _ _ _ _ _ _ _ _ [d,a,bb] _ ⟨_,_,rfl⟩ hl1 (Li.list (w:=W) [d,a,bb] (by show 3<Xa; decide))).mono ?_;rintro e w2 ⟨rfl,hb⟩;have HB2:=J (Za (Yj W _).2.1 hb (by simp));clear hb hT;rw [Lf];have hx:=J (show Zf p f ⟨7,d,a,bb,n,fx,gs,os⟩=(Zr f d&&(Zr f a&&Zr f bb)) by rfl);go_wp2;go_ret;exact⟨by rw [G hx]; rfl,Za (G HW) (G HB2) (by have:=G HZ; omega)⟩
set_option maxHeartbeats 4000000 in
set_option maxRecDepth 100000 in
theorem Zov:FfS 8:=by
 intro p f d a bb n fx gs os fv ev pv hv sv bv av ov A E B w hSC ha ho hF hn;obtain⟨pf,cf,pe,ce,pp,cp,ph,ch,ps,cs,pb,cb,pa,ca,po,co,rfl,rfl,rfl,rfl,rfl,rfl,rfl,rfl,⟨hl1,hl2,hl3,hl4,hl5,hl6⟩,HSC,HA,HO,HW,HR1,HR2,HZ⟩:=Ls 8 d a bb n fx hSC ha ho _ rfl;have HF:=J hF;have HNN:=J hn;clear hSC ha ho hF hn;go_enter Tryz.func102,Tryz.ntmps102
 go_wp2_with fail
 generalize World.alloc (World.alloc w _) _=W at HSC HA HO HW HR1 HR2 HZ ⊢;have hT:=G HZ;rw [← hT];refine(Yo f _ _ _ _ _ _ _ _ [d,a,bb] _ ⟨_,_,rfl⟩ hl1 (Li.list (w:=W) [d,a,bb] (by show 3<Xa; decide))).mono ?_;rintro e w2 ⟨rfl,hb⟩;have HB2:=J (Za (Yj W _).2.1 hb (by simp));clear hb hT;rw [Lf];have hx:=J (show Zf p f ⟨8,d,a,bb,n,fx,gs,os⟩=(Zr f d&&(Zr f a&&Zr f bb)) by rfl);go_wp2;go_ret;exact⟨by rw [G hx]; rfl,Za (G HW) (G HB2) (by have:=G HZ; omega)⟩
set_option maxHeartbeats 4000000 in
set_option maxRecDepth 100000 in
theorem Zow:FfS 9:=by
 intro p f d a bb n fx gs os fv ev pv hv sv bv av ov A E B w hSC ha ho hF hn;obtain⟨pf,cf,pe,ce,pp,cp,ph,ch,ps,cs,pb,cb,pa,ca,po,co,rfl,rfl,rfl,rfl,rfl,rfl,rfl,rfl,⟨hl1,hl2,hl3,hl4,hl5,hl6⟩,HSC,HA,HO,HW,HR1,HR2,HZ⟩:=Ls 9 d a bb n fx hSC ha ho _ rfl;have HF:=J hF;have HNN:=J hn;clear hSC ha ho hF hn;go_enter Tryz.func102,Tryz.ntmps102
 go_wp2_with fail
 generalize World.alloc (World.alloc w _) _=W at HSC HA HO HW HR1 HR2 HZ ⊢;have hT:=G HZ;rw [← hT];refine(Yo f _ _ _ _ _ _ _ _ [d,a,bb] _ ⟨_,_,rfl⟩ hl1 (Li.list (w:=W) [d,a,bb] (by show 3<Xa; decide))).mono ?_;rintro e w2 ⟨rfl,hb⟩;have HB2:=J (Za (Yj W _).2.1 hb (by simp));clear hb hT;rw [Lf];have hx:=J (show Zf p f ⟨9,d,a,bb,n,fx,gs,os⟩=(Zr f d&&(Zr f a&&Zr f bb)) by rfl);go_wp2;go_ret;exact⟨by rw [G hx]; rfl,Za (G HW) (G HB2) (by have:=G HZ; omega)⟩
set_option maxHeartbeats 4000000 in
set_option maxRecDepth 100000 in
theorem Zmy:FfS 14:=by
 intro p f d a bb n fx gs os fv ev pv hv sv bv av ov A E B w hSC ha ho hF hn;obtain⟨pf,cf,pe,ce,pp,cp,ph,ch,ps,cs,pb,cb,pa,ca,po,co,rfl,rfl,rfl,rfl,rfl,rfl,rfl,rfl,⟨hl1,hl2,hl3,hl4,hl5,hl6⟩,HSC,HA,HO,HW,HR1,HR2,HZ⟩:=Ls 14 d a bb n fx hSC ha ho _ rfl;have HF:=J hF;have HNN:=J hn;clear hSC ha ho hF hn;go_enter Tryz.func102,Tryz.ntmps102
 go_wp2_with fail
 generalize World.alloc (World.alloc w _) _=W at HSC HA HO HW HR1 HR2 HZ ⊢;refine(Dj f _ _ _ _ _ _ _ _ _ W hl3).mono ?_;rintro e w2 ⟨rfl,hb⟩;have HB2:=J hb;clear hb;have hx:=J (show Zf p f ⟨14,d,a,bb,n,fx,gs,os⟩=Yi a 0 (f.blocks.length-1) by rfl);go_wp2;go_ret;exact⟨by rw [G hx]; rfl,Za (G HW) (G HB2) (by have:=G HZ; omega)⟩
set_option maxHeartbeats 4000000 in
set_option maxRecDepth 100000 in
theorem Zmz:FfS 18:=by
 intro p f d a bb n fx gs os fv ev pv hv sv bv av ov A E B w hSC ha ho hF hn;obtain⟨pf,cf,pe,ce,pp,cp,ph,ch,ps,cs,pb,cb,pa,ca,po,co,rfl,rfl,rfl,rfl,rfl,rfl,rfl,rfl,⟨hl1,hl2,hl3,hl4,hl5,hl6⟩,HSC,HA,HO,HW,HR1,HR2,HZ⟩:=Ls 18 d a bb n fx hSC ha ho _ rfl;have HF:=J hF;have HNN:=J hn;clear hSC ha ho hF hn;go_enter Tryz.func102,Tryz.ntmps102
 go_wp2;go_ret;exact⟨rfl,G HW⟩
set_option maxHeartbeats 4000000 in
set_option maxRecDepth 100000 in
theorem Zna:FfS 15:=by
 intro p f d a bb n fx gs os fv ev pv hv sv bv av ov A E B w hSC ha ho hF hn;obtain⟨pf,cf,pe,ce,pp,cp,ph,ch,ps,cs,pb,cb,pa,ca,po,co,rfl,rfl,rfl,rfl,rfl,rfl,rfl,rfl,⟨hl1,hl2,hl3,hl4,hl5,hl6⟩,HSC,HA,HO,HW,HR1,HR2,HZ⟩:=Ls 15 d a bb n fx hSC ha ho _ rfl;have HF:=J hF;have HNN:=J hn;clear hSC ha ho hF hn;go_enter Tryz.func102,Tryz.ntmps102
 go_wp2_with fail
 generalize World.alloc (World.alloc w _) _=W at HSC HA HO HW HR1 HR2 HZ ⊢;have hT:=G HZ;rw [← hT];refine(Yo f _ _ _ _ _ _ _ _ [d] _ ⟨_,_,rfl⟩ hl1 (Li.list (w:=W) [d] (by show 1<Xa; decide))).mono ?_;rintro e w2 ⟨rfl,hb⟩;have HB2:=J (Za (Yj W _).2.1 hb (by simp));clear hb hT;rw [Gb];have hz:=G HZ;have hrs:=((G HB2).block w.heap.size (by omega)).trans (G HR1);have hri:=((G HB2).block (w.heap.size+1) (by omega)).trans (G HR2);have s0:=(cR hrs 0);have s1:=(cR hrs 1);have s2:=(cR hrs 2);have s3:=(cR hrs 3);have s4:=(cR hrs 4);have s5:=(cR hrs 5);have s6:=(cR hrs 6);have i0:=(cR hri 0);have i1:=(cR hri 1);have i2:=(cR hri 2);have i3:=(cR hri 3);have i4:=(cR hri 4);have i5:=(cR hri 5);have i6:=(cR hri 6);have i7:=(cR hri 7);clear hz hrs hri;cases h1:Zr f d with
 | false =>
  have hx:=J (show Zf p f ⟨15,d,a,bb,n,fx,gs,os⟩=false by unfold Zf; simp [h1]);go_wp2;go_ret;exact⟨by rw [G hx]; rfl,Za (G HW) (G HB2) (by have:=G HZ; omega)⟩
 | true =>
  have H1:=J h1;clear h1;go_wp2_with fail
  refine(Dj f _ _ _ _ _ _ _ _ a w2 hl3).mono ?_;rintro e w3 ⟨rfl,hb⟩;have HB3:=J (Za (G HB2) hb (G HB2).size);clear hb s0 s1 s2 s3 s4 s5 s6 i0 i1 i2 i3 i4 i5 i6 i7;have hz:=G HZ;have hrs:=((G HB3).block w.heap.size (by omega)).trans (G HR1);have hri:=((G HB3).block (w.heap.size+1) (by omega)).trans (G HR2);have s0:=(cR hrs 0);have s1:=(cR hrs 1);have s2:=(cR hrs 2);have s3:=(cR hrs 3);have s4:=(cR hrs 4);have s5:=(cR hrs 5);have s6:=(cR hrs 6);have i0:=(cR hri 0);have i1:=(cR hri 1);have i2:=(cR hri 2);have i3:=(cR hri 3);have i4:=(cR hri 4);have i5:=(cR hri 5);have i6:=(cR hri 6);have i7:=(cR hri 7);clear hz hrs hri;cases h2:Yi a 0 (f.blocks.length-1) with
  | false =>
   have hx:=J (show Zf p f ⟨15,d,a,bb,n,fx,gs,os⟩=false by unfold Zf; simp [h2]);go_wp2;go_ret;exact⟨by rw [G hx]; rfl,Za (G HW) (G HB3) (by have:=G HZ; omega)⟩
  | true =>
   have H2:=J h2;clear h2;go_wp2_with fail
   refine(Dj f _ _ _ _ _ _ _ _ bb w3 hl3).mono ?_;rintro e w4 ⟨rfl,hb⟩;have HB4:=J (Za (G HB3) hb (G HB3).size);clear hb;have hx:=J (show Zf p f ⟨15,d,a,bb,n,fx,gs,os⟩=Yi bb 0 (f.blocks.length-1) by unfold Zf; simp [G H1,G H2]);go_wp2;go_ret;exact⟨by rw [G hx]; rfl,Za (G HW) (G HB4) (by have:=G HZ; omega)⟩
set_option maxHeartbeats 4000000 in
set_option maxRecDepth 100000 in
theorem Znb:FfS 10:=by
 intro p f d a bb n fx gs os fv ev pv hv sv bv av ov A E B w hSC ha ho hF hn;obtain⟨pf,cf,pe,ce,pp,cp,ph,ch,ps,cs,pb,cb,pa,ca,po,co,rfl,rfl,rfl,rfl,rfl,rfl,rfl,rfl,⟨hl1,hl2,hl3,hl4,hl5,hl6⟩,HSC,HA,HO,HW,HR1,HR2,HZ⟩:=Ls 10 d a bb n fx hSC ha ho _ rfl;have HF:=J hF;have HNN:=J hn;clear hSC ha ho hF hn;go_enter Tryz.func102,Tryz.ntmps102
 go_wp2_with fail
 generalize World.alloc (World.alloc w _) _=W at HSC HA HO HW HR1 HR2 HZ ⊢;have hT:=G HZ;rw [← hT];refine(Yo f _ _ _ _ _ _ _ _ [d] _ ⟨_,_,rfl⟩ hl1 (Li.list (w:=W) [d] (by show 1<Xa; decide))).mono ?_;rintro e w2 ⟨rfl,hb⟩;have HB2:=J (Za (Yj W _).2.1 hb (by simp));clear hb hT;rw [Gb];have hz:=G HZ;have hrs:=((G HB2).block w.heap.size (by omega)).trans (G HR1);have hri:=((G HB2).block (w.heap.size+1) (by omega)).trans (G HR2);have s0:=(cR hrs 0);have s1:=(cR hrs 1);have s2:=(cR hrs 2);have s3:=(cR hrs 3);have s4:=(cR hrs 4);have s5:=(cR hrs 5);have s6:=(cR hrs 6);have i0:=(cR hri 0);have i1:=(cR hri 1);have i2:=(cR hri 2);have i3:=(cR hri 3);have i4:=(cR hri 4);have i5:=(cR hri 5);have i6:=(cR hri 6);have i7:=(cR hri 7);clear hz hrs hri;cases h1:Zr f d with
 | false =>
  have hx:=J (show Zf p f ⟨10,d,a,bb,n,fx,gs,os⟩=false by unfold Zf; simp [h1]);go_wp2;go_ret;exact⟨by rw [G hx]; rfl,Za (G HW) (G HB2) (by have:=G HZ; omega)⟩
 | true =>
  have H1:=J h1;clear h1;go_wp2_with fail
  refine(It f ⟨10,d,a,bb,n,fx,gs,os⟩ _ _ _ _ _ _ _ _ _ w2 ((G HSC).below (G HB2)).func.ss (G HF).slots (G HNN)).mono ?_;rintro e w3 ⟨rfl,hb⟩;have HB3:=J (Za (G HB2) hb (G HB2).size);clear hb;have hx:=J (show Zf p f ⟨10,d,a,bb,n,fx,gs,os⟩=Nv f ⟨10,d,a,bb,n,fx,gs,os⟩ by unfold Zf; simp [G H1]);go_wp2;go_ret;exact⟨by rw [G hx]; rfl,Za (G HW) (G HB3) (by have:=G HZ; omega)⟩
set_option maxHeartbeats 4000000 in
set_option maxRecDepth 100000 in
theorem Znc:FfS 11:=by
 intro p f d a bb n fx gs os fv ev pv hv sv bv av ov A E B w hSC ha ho hF hn;obtain⟨pf,cf,pe,ce,pp,cp,ph,ch,ps,cs,pb,cb,pa,ca,po,co,rfl,rfl,rfl,rfl,rfl,rfl,rfl,rfl,⟨hl1,hl2,hl3,hl4,hl5,hl6⟩,HSC,HA,HO,HW,HR1,HR2,HZ⟩:=Ls 11 d a bb n fx hSC ha ho _ rfl;have HF:=J hF;have HNN:=J hn;clear hSC ha ho hF hn;go_enter Tryz.func102,Tryz.ntmps102
 go_wp2_with fail
 generalize World.alloc (World.alloc w _) _=W at HSC HA HO HW HR1 HR2 HZ ⊢;have hT:=G HZ;rw [← hT];refine(Yo f _ _ _ _ _ _ _ _ [d] _ ⟨_,_,rfl⟩ hl1 (Li.list (w:=W) [d] (by show 1<Xa; decide))).mono ?_;rintro e w2 ⟨rfl,hb⟩;have HB2:=J (Za (Yj W _).2.1 hb (by simp));clear hb hT;rw [Gb];have hz:=G HZ;have hrs:=((G HB2).block w.heap.size (by omega)).trans (G HR1);have hri:=((G HB2).block (w.heap.size+1) (by omega)).trans (G HR2);have s0:=(cR hrs 0);have s1:=(cR hrs 1);have s2:=(cR hrs 2);have s3:=(cR hrs 3);have s4:=(cR hrs 4);have s5:=(cR hrs 5);have s6:=(cR hrs 6);have i0:=(cR hri 0);have i1:=(cR hri 1);have i2:=(cR hri 2);have i3:=(cR hri 3);have i4:=(cR hri 4);have i5:=(cR hri 5);have i6:=(cR hri 6);have i7:=(cR hri 7);clear hz hrs hri;cases h1:Zr f d with
 | false =>
  have hx:=J (show Zf p f ⟨11,d,a,bb,n,fx,gs,os⟩=false by unfold Zf; simp [h1]);go_wp2;go_ret;exact⟨by rw [G hx]; rfl,Za (G HW) (G HB2) (by have:=G HZ; omega)⟩
 | true =>
  have H1:=J h1;clear h1;go_wp2_with fail
  refine(It f ⟨11,d,a,bb,n,fx,gs,os⟩ _ _ _ _ _ _ _ _ _ w2 ((G HSC).below (G HB2)).func.ss (G HF).slots (G HNN)).mono ?_;rintro e w3 ⟨rfl,hb⟩;have HB3:=J (Za (G HB2) hb (G HB2).size);clear hb;have hx:=J (show Zf p f ⟨11,d,a,bb,n,fx,gs,os⟩=Nv f ⟨11,d,a,bb,n,fx,gs,os⟩ by unfold Zf; simp [G H1]);go_wp2;go_ret;exact⟨by rw [G hx]; rfl,Za (G HW) (G HB3) (by have:=G HZ; omega)⟩
set_option maxHeartbeats 4000000 in
set_option maxRecDepth 100000 in
theorem Znd:FfS 16:=by
 intro p f d a bb n fx gs os fv ev pv hv sv bv av ov A E B w hSC ha ho hF hn;obtain⟨pf,cf,pe,ce,pp,cp,ph,ch,ps,cs,pb,cb,pa,ca,po,co,rfl,rfl,rfl,rfl,rfl,rfl,rfl,rfl,⟨hl1,hl2,hl3,hl4,hl5,hl6⟩,HSC,HA,HO,HW,HR1,HR2,HZ⟩:=Ls 16 d a bb n fx hSC ha ho _ rfl;have HF:=J hF;have HNN:=J hn;clear hSC ha ho hF hn;go_enter Tryz.func102,Tryz.ntmps102
 by_cases h1:(os.length:Int)=f.results
 ·
  have z1:((os.length:Int)==f.results)=true:=by simpa using h1
  go_wp2_with fail
  generalize World.alloc (World.alloc w _) _=W at HSC HA HO HW HR1 HR2 HZ ⊢;refine(Yo f _ _ _ _ _ _ _ _ os W ⟨_,_,rfl⟩ hl1 (G HO)).mono ?_;rintro e w2 ⟨rfl,hb⟩;have HB2:=J hb;clear hb;have hx:=J (show Zf p f ⟨16,d,a,bb,n,fx,gs,os⟩=Xg f os by unfold Zf; simp [h1]);go_wp2;go_ret;exact⟨by rw [G hx]; rfl,Za (G HW) (G HB2) (by have:=G HZ; omega)⟩
 ·
  have z1:((os.length:Int)==f.results)=false:=by simpa using h1
  have hx:=J (show Zf p f ⟨16,d,a,bb,n,fx,gs,os⟩=false by unfold Zf; simp [h1]);clear h1;go_wp2;go_ret;exact⟨by rw [G hx]; rfl,G HW⟩
end Go.Proofs.YteddfaconabobaaGreatDoor
