import Derived.Test.YtnlcfnjeagmemaaGreatDoorJ3
import Derived.Test.YtnlcfnjeagmemaaGreatDoorJ49
namespace Go.Proofs.YtnlcfnjeagmemaaGreatDoor
open Go.RowKit
set_option maxHeartbeats 4000000
set_option maxRecDepth 100000
def m13 (T:Zm)(n:Nat)(sc:List Int)(room:Int):Zf:=⟨0,0,0,Yy (Mj 16) T.spN ((n:Int)-room),Ld n n,sc,[],room,0,0,0,[]⟩
theorem Zwi {T:Zm}{own:Yc}{ps ws sc:List Int}{n:Nat}{room:Int}(hro:0≤room∧room≤n)(hn:n≤65536)(hrup:Ml (own.size+own.copies) T.al=room):Gf T own ps ws (Mk n sc)=(Zu T own.size (m13 T n sc room) own.args ps ws,true):=by
 have hl:(Mk n sc).me.length=n:=Jw n n;have hu:IntKind.u64.wrap ((n:Int)-room)=(n:Int)-room:=Lb (by omega) (by omega);have hw:wrap64 ((n:Int)-room)=(n:Int)-room:=Zcb (by omega) (by omega);have hp:(Mk n sc).pk=0:=rfl;have e:(Mk n sc).setSP T (IntKind.u64.wrap (((Mk n sc).me.length:Int)-Ml (own.size+own.copies) T.al))=(m13 T n sc room,true):=by
  rw [hl,hrup,hu];unfold Zf.setSP;rw [hw,if_neg (by omega),hl,if_neg (by omega),hp,show max (0:Int) ((n:Int)-((n:Int)-room))=room by omega];rfl
 unfold Gf;rw [e];rfl
theorem Zsp {T:Zm}{own:Yc}{ps ws sc:List Int}{n:Nat}{room:Int}(hro:(n:Int)<room)(hr2:room≤100000)(hrup:Ml (own.size+own.copies) T.al=room):Gf T own ps ws (Mk n sc)=((Mk n sc).endK 4 [],false):=by
 have hl:(Mk n sc).me.length=n:=Jw n n;have hw:wrap64 (IntKind.u64.wrap ((n:Int)-room))<0:=by
  rw [show IntKind.u64.wrap ((n:Int)-room)=((n:Int)-room) % 18446744073709551616 by simp [IntKind.wrap,IntKind.bits,IntKind.signed]];simp only [wrap64];omega
 have e:(Mk n sc).setSP T (IntKind.u64.wrap (((Mk n sc).me.length:Int)-Ml (own.size+own.copies) T.al))=((Mk n sc).endK 4 [],false):=by
  rw [hl,hrup];unfold Zf.setSP;rw [if_pos hw]
 unfold Gf;rw [e];rfl
theorem Gi.bl {w w':World}{A:Nat}{v:Value}{fs:List (List (List Zt))}(h:Gi w A v fs)(hb:Below A w w'):Gi w' A v fs:=h.kx (Gh (a:=A) (b:=A) hb) (Nat.le_refl _) (Nat.le_refl _) (Nat.le_refl _)
theorem Zwj {w W0:World}{T:Zm}{C:Zk}{f:Int}{ws sc:List Int}{n st:Nat}{own:Yc}{tb ob fb lb cb L:Nat}{av rv cf ce:Value}{pvs:List Value}{ps:List Int}{nr:Nat}{room:Int}{ap sp pp:Option Addr}{ac scc pc sg so csn csc fN:Nat}{s:Nat→Value}(hX:XK w W0 T own tb ob fb lb L av rv pvs)(hrc:W0.heap[cb]?=some (.cells #[.slice (some ⟨sg,so,none⟩) csn csc,cf,ce] 29 (0,0)))(hT:TK T)(hst:st≤4194304)(hly:LyK T ps nr own)(hres:own.res.length≤1000)(hag:T.ag.length≤100)(hrs:T.rs.length≤100)(hSE:Na W0 W0.heap.size ce C.externs)(hSG:∀ s ∈ C.externs,Mt s)(hfl:C.funcs.length≤1099511627776)(hbl:(Zg C).length≤1099511627776)(hlen:(Xl 0 C.funcs).length≤1099511627776)(hcf:Gi W0 W0.heap.size cf C.funcs)(hn:n≤65536)(hro:0≤room∧room≤n)(hrm:own.size+own.copies≤room)(hrup:Ml (own.size+own.copies) T.al=room)(hc1000:own.copies≤1000)(hw:Lz W0 W0.heap.size (.slice ap ws.length ac) ws)(hu:∀ x ∈ ws,0≤x∧x<18446744073709551616)(hwl:ws.length=Yl ps)(hps:∀ k,k<ps.length→0≤ps.getD k 0∧ps.getD k 0≤8)(hp8:ps.length≤8)(hs:Lz W0 W0.heap.size (.slice sp sc.length scc) sc)(hus:∀ x ∈ sc,0≤x∧x<18446744073709551616)(hfN:f=(fN:Int))(hfs:fN<csn)(hff:fN<C.funcs.length)(hc1:W0.cell? ⟨sg,so+fN*2,none⟩=some (.slice pp ps.length pc))(hpl:Li W0 (.slice pp ps.length pc) ps)(how:own=Zr T (C.sigs.getD fN ([],0)))(hpw:(C.sigs.getD fN ([],0)).1=ps)(hE:Lv T C f ws n st=0)(h2:s 2=.int .i64 f)(h3:s 3=.slice ap ws.length ac)(h4:s 4=.slice sp sc.length scc)(h5:s 5=.int .i64 (n:Int))(h6:s 6=.int .i64 (st:Int))(h7:s 7=.pointer (some ⟨tb,0,none⟩))(h8:s 8=.pointer (some ⟨cb,0,none⟩))(h14:s 14=.pointer (some ⟨ob,0,none⟩))(h15:s 15=.pointer (some ⟨fb,0,none⟩))(h16:s 16=.pointer (some ⟨lb,0,none⟩))(h17:s 17=.int .i64 room) :
 Code.wp Tryz.prog (xT Tryz.f8 7) (bodyPost Tryz.prog Tryz.f8 (Gc w T C f ws sc n st)) (Fz s) W0:=by
 have hQp:∀ c (a:Act) d v w',(bodyPost Tryz.prog Tryz.f8 (Gc w T C f ws sc n st)) (.panic c) (a.put d v) w'→(bodyPost Tryz.prog Tryz.f8 (Gc w T C f ws sc n st)) (.panic c) a w':=fun c a d v w' h=>by cases d <;> exact h
 have hr16:=hT.r16;have hr4:=hT.r4;have hX0:=hX.rt;have hbX:∀ V,Below W0.heap.size W0 V→V.heap[tb]?=some (.cells T.box 25 (0,0)):=fun V hb=>(hb.block tb (Zc hX0)).trans hX0;refine xt7 hQp hr16 hr4 hn hro hX0 hrc h4 h5 h7 h8 h17 (fun V' s' rn eb rb sb hrn hb he hr hm he1 hr1 hs1 p2 p3 p5 p6 p7 p8 p14 p15 p16 p17 p18=>?_);have hP:=EP.new hb he hrn hr hm he1 hr1 hs1 hn hro hs;have hne:=hP.er;refine xt8 (E:=toE (gC T (.slice (some ⟨sg,so,none⟩) csn csc) cf ce rb sb n) (pC (.slice sp sc.length scc)) 0 (mC n sc room)) (C:=C) (A:=W0.heap.size) hP.ei rfl rfl rfl (hcf.bl hb) he1 hlen hbl hfl p18 (fun V1 s1 li bk bg rr ck es vs hL q2 q3 q5 q6 q7 q8 q14 q15 q16 q17 q18=>?_);have hrV:=Zc hr;have hmV:=Zc hm;have heV:=Zc he;have hlow:=hL.low;have hb1:Below W0.heap.size W0 V1:=⟨hlow.os.trans hb.os,hlow.tape.trans hb.tape,hlow.output.trans hb.output,Nat.le_trans hb.size hlow.size,fun q hq=>(hlow.oth q (by have:=hb.size; omega) (by omega) (by omega) (by omega)).trans (hb.block q hq)⟩;have hQ1:=Zzg (rb:=rb) (sb:=sb) hL ({ gC T (.slice (some ⟨sg,so,none⟩) csn csc) cf ce rb sb n with li:=li,bg:=bg,bk:=bk,nt:=.map (some rr) }:Ji) rfl rfl rfl rfl (by
  obtain⟨VF,⟨fp,fc,e,-⟩,-⟩:=hcf;exact⟨fp,fc,e⟩) hrV hmV hlen hbl hfl
 have hP1:EP V1 W0.heap.size V1.heap.size V1.heap.size ({ gC T (.slice (some ⟨sg,so,none⟩) csn csc) cf ce rb sb n with li:=li,bg:=bg,bk:=bk,nt:=.map (some rr) }:Ji) eb rb sb (pC (.slice sp sc.length scc)) [] 0 (mC n sc room):=by
  refine⟨hL.ei,(hlow.oth rb hrV (by omega) (by omega) (by omega)).trans hP.rg,(hlow.oth sb hmV (by omega) (by omega) (by omega)).trans hP.mem,rfl,hP.mv,hP.len,hP.byt,World.ownsRow_nil _ _ _ _,hs.ke (Dm (a:=W0.heap.size) (b:=W0.heap.size) (c:=W0.heap.size) hb1) (Nat.le_refl _) (Nat.le_refl _) (Nat.le_refl _) (Nat.le_refl _),⟨rfl,World.ownsRow_nil _ _ _ _,fun i hi=>absurd hi (by simp [mC])⟩,hP.rbd,hP.pk,he1,hr1,hs1,Nat.lt_of_lt_of_le heV hlow.size,Nat.lt_of_lt_of_le hrV hlow.size,Nat.lt_of_lt_of_le hmV hlow.size,Nat.le_refl _,Nat.le_refl _,(fun g hg=>by cases hg),(fun g hg=>by cases hg),fun i hi=>absurd hi (by simp [mC]),fun _=>rfl,fun _=>rfl⟩
 generalize hG1:({ gC T (.slice (some ⟨sg,so,none⟩) csn csc) cf ce rb sb n with li:=li,bg:=bg,bk:=bk,nt:=.map (some rr) }:Ji)=G1 at hQ1 hP1;have hGT:G1.T=T:=by rw [← hG1]; rfl
 have hGe:G1.ce=ce:=by rw [← hG1]; rfl
 have hBB:V1.heap.size≤V1.heap.size:=Nat.le_refl _;refine xt9 (m:=mC n sc room) (by rw [hGT]; exact hT) (show ER V1 W0.heap.size V1.heap.size V1.heap.size G1 eb rb sb 0 { mC n sc room with rg:=Mj 0 } from⟨_,_,hP1⟩) (q18.trans p18) (fun V2 s2 h2' k2 r2 r3 r5 r6 r7 r8 r14 r15 r16 r17 r18=>?_);refine Yau (m:={ mC n sc room with rg:=Mj G1.T.r.toNat }) h2' hn (r18.trans (q18.trans p18)) (fun V3 s3 h3' k3 t2 t3 t5 t6 t7 t8 t14 t15 t16 t17 t18=>?_);refine Yaw hro.1 hro.2 hn (t5.trans (r5.trans (q5.trans (p5.trans h5)))) (t17.trans (r17.trans (q17.trans (p17.trans h17)))) (fun s4 u2 u3 u5 u6 u7 u8 u14 u15 u16 u17 u18 u21=>?_);have k13:=k2.tr k3;have hb3:Below W0.heap.size W0 V3:=⟨k13.os.trans hb1.os,k13.tape.trans hb1.tape,k13.output.trans hb1.output,Nat.le_trans hb1.size k13.size,fun q hq=>(k13.oth q (by have:=hb1.size; omega) (by omega) (by omega) (by omega)).trans (hb1.block q hq)⟩;have h3e:ER V3 W0.heap.size V1.heap.size V1.heap.size G1 eb rb sb 0 { mC n sc room with rg:=Mj 16,me:=Ld n n }:=h3'.rgeq (Mj 16) (fun r hr=>by
  rw [hGT] at hr ⊢;show Mj 16 r=Mj T.r.toNat r;unfold Mj;rw [if_pos (by omega),if_pos hr]) Znw
 refine Yav (v:=(n:Int)-room) hQp (by rw [hGT]; exact hT) h3e (by rw [hGT]; exact hbX V3 hb3) (by omega) (u7.trans (t7.trans (r7.trans (q7.trans (p7.trans h7))))) (u18.trans (t18.trans (r18.trans (q18.trans p18)))) u21 (fun V5 s5 h5' k5 x2 x3 x5 x6 x7 x8 x14 x15 x16 x17 x18 x21=>?_);have k15:=k13.tr k5;have hb5:Below W0.heap.size W0 V5:=⟨k15.os.trans hb1.os,k15.tape.trans hb1.tape,k15.output.trans hb1.output,Nat.le_trans hb1.size k15.size,fun q hq=>(k15.oth q (by have:=hb1.size; omega) (by omega) (by omega) (by omega)).trans (hb1.block q hq)⟩;have hm13:({ mC n sc room with rg:=Yy (Mj 16) G1.T.spN ((n:Int)-room),me:=Ld n n }:Zf)=m13 T n sc room:=by rw [hGT]; rfl
 have h5e:ER V5 W0.heap.size V1.heap.size V1.heap.size G1 eb rb sb 0 (m13 T n sc room):=by rw [← hm13]; exact h5'
 have hspm:(m13 T n sc room).sp G1.T=(n:Int)-room:=by
  rw [hGT];show Yy (Mj 16) T.spN ((n:Int)-room) T.spN=_;unfold Yy;rw [if_pos rfl]
 have hlm:(m13 T n sc room).me.length=n:=Jw n n;have hexO:Lc G1.T C f ws sc n st=(if ((Zu G1.T own.size (m13 T n sc room) own.args ps ws).call G1.T C.funcs.length f 0).2=true then On G1.T C own (Zu G1.T own.size (m13 T n sc room) own.args ps ws).rg st ((Zu G1.T own.size (m13 T n sc room) own.args ps ws).call G1.T C.funcs.length f 0).1 else ((Zu G1.T own.size (m13 T n sc room) own.args ps ws).call G1.T C.funcs.length f 0).1):=by
  rw [hGT];unfold Lc;rw [if_pos hE];unfold exG;rw [Int.toNat_natCast,Int.toNat_natCast,hfN,Int.toNat_natCast,← how,hpw,Zwi hro hn hrup,if_pos rfl]
 rw [show T=G1.T from hGT.symm] at hX hT hly hag hrs hE;have:=Yat (fN:=fN) (csn:=csn) (csc:=csc) (pc:=pc) (sg:=sg) (so:=so) (cb:=cb) (pp:=pp) (ap:=ap) (ac:=ac) (st:=st) hX hb5 hT h5e ⟨rfl,rfl,rfl⟩ rfl hst ⟨⟨Int.le_refl _,by show(0:Int)<_; omega⟩,⟨Int.le_refl _,Int.natCast_nonneg _⟩,by show((0:Nat):Int)+(0:Nat)≤0; omega,by show(0:Int)≤(st:Int); omega,hus⟩ rfl hlm.symm hly (fun R hR=>⟨by rw [hR,hspm]; omega,by rw [hR,hspm]; have:=hly.c0; omega,hn,hly.rs⟩) hres (hQ1.ke k15) hag hrs (by rw [hGe]; exact hSE) hSG hfl hbl (by rw [hspm]; omega) hc1000 (by rw [hspm]; omega) hw hu hwl hps hp8 hfN hfs ((cR hrc 0)) hc1 hpl hexO hE (x2.trans (u2.trans (t2.trans (r2.trans (q2.trans (p2.trans h2)))))) (x3.trans (u3.trans (t3.trans (r3.trans (q3.trans (p3.trans h3)))))) (x5.trans (u5.trans (t5.trans (r5.trans (q5.trans (p5.trans h5)))))) (x6.trans (u6.trans (t6.trans (r6.trans (q6.trans (p6.trans h6)))))) (x7.trans (u7.trans (t7.trans (r7.trans (q7.trans (p7.trans h7)))))) (x8.trans (u8.trans (t8.trans (r8.trans (q8.trans (p8.trans h8)))))) (x14.trans (u14.trans (t14.trans (r14.trans (q14.trans (p14.trans h14)))))) (x15.trans (u15.trans (t15.trans (r15.trans (q15.trans (p15.trans h15)))))) (x16.trans (u16.trans (t16.trans (r16.trans (q16.trans (p16.trans h16)))))) (x18.trans (u18.trans (t18.trans (r18.trans (q18.trans p18))))) (by rw [hspm,x21]; exact u21);rw [hGT] at this;exact this
set_option maxHeartbeats 4000000
set_option maxRecDepth 100000
theorem Zzh {w V:World}{T:Zm}{C:Zk}{f:Int}{ws sc:List Int}{n st:Int}{ob fb:Nat}{s:Nat→Value}{Qc:Exit→Act→World→Prop}(hob:V.heap[ob]?=some (.cells #[.int .i64 0,.slice none 0 0,.int .i64 0,.slice none 0 0,.int .i64 0,.int .i64 0] 41 (0,0)))(hfb:V.heap[fb]?=some (.cells #[.int .i64 0,.int .i64 0,.int .i64 0,.int .i64 0] 46 (0,0)))(ho1:w.heap.size≤ob)(hf1:w.heap.size≤fb)(hbw:Below w.heap.size w V)(hM:∃ M,Lc T C f ws sc n st=M∧M.kind=0∧M.vals=[]∧M.code=0∧M.tr=[]∧M.steps=0∧M.pk=0)(hE:Lv T C f ws n st=2)(h14:s 14=.pointer (some ⟨ob,0,none⟩))(h15:s 15=.pointer (some ⟨fb,0,none⟩))(hret:∀ a w',(bodyPost Tryz.prog Tryz.f8 (Gc w T C f ws sc n st)) .ret a w'→Qc .ret a w') :
 Code.wp Tryz.prog (Ni (Nw (Sf (xT Tryz.f8 1)))) Qc (Fz s) V:=by
 have hne:ob≠fb:=Jf hob hfb (by decide);have hobV:=Zc hob;have hfbV:=Zc hfb;have hwz:=hbw.size;have HRET:=Y hret;have HM:=Y hM;have HEE:=Y hE;have HBW:=Y hbw;have HOB:=Y hob;have HFB:=Y hfb;rw [Gj,h14,h15];clear hret hM hE hbw hob hfb h14 h15;conv=>arg 2; whnf
 go_wp2_with fail
 refine(Znn 2 V).mono ?_;rintro e w3 ⟨rfl,hb3⟩;have hs3:=hb3.size;have HB3:=Y (Zb (O HBW) hb3 hwz);have HC2:=Y ((hb3.block ob hobV).trans (O HOB));have HC3:=Y ((hb3.block fb hfbV).trans (O HFB));clear hb3;unfold flt;go_wp2_with (first | (refine wpList_store_row rfl 41 _ _ rfl ob #[.int .i64 0,.slice none 0 0,.int .i64 0,.slice none 0 0,.int .i64 0,.int .i64 0] rfl rfl 41 _ (O HC2) (Tryz.infOutX.trans rfl) rfl (by simp [Value.oneCell']) ?_) | (refine wpList_store_row rfl 46 _ _ rfl fb #[.int .i64 2,.int .i64 (-1),.int .i64 (-1),.int .i64 (-1)] rfl rfl 46 _ ((setRow_other _ _ _ _ (by omega)).trans (O HC3)) (Tryz.infRFx.trans rfl) rfl (by simp [Value.oneCell']) ?_))
 refine O HRET _ _ ?_;refine bodyPost_ret (Nq (fn:=Tryz.f8) (p:=14) (q:=15) (px:=41) (uy:=46) rfl _ _ ob 41 #[.int .i64 0,.slice none 0 0,.int .i64 0,.slice none 0 0,.int .i64 0,.int .i64 0] (0,0) _ fb 46 #[.int .i64 2,.int .i64 (-1),.int .i64 (-1),.int .i64 (-1)] (0,0) _ rfl ((setRow_other _ _ _ _ (by omega)).trans (setRow_heap _ _ _ _ _ _ (O HC2))) Tryz.underlying41 rfl (Tryz.infOutX.trans rfl) rfl (setRow_heap _ _ _ _ _ _ ((setRow_other _ _ _ _ (by omega)).trans (O HC3))) Tryz.underlying46 rfl (Tryz.infRFx.trans rfl)) rfl ?_;obtain⟨M,e1,e2,e3,e4,e5,e6,e7⟩:=O HM;unfold Gc;rw [e1,O HEE,e2,e3,e4,e5,e6,e7];exact⟨_,_,[],rfl,World.ownsRow_nil _ _ _ _,⟨rfl,World.ownsRow_nil _ _ _ _,fun k hk=>absurd hk (by simp)⟩,Zp (Zp (O HB3) (by omega)) (by omega)⟩
theorem Zzi {w V:World}{T:Zm}{C:Zk}{f:Int}{ws sc:List Int}{n st:Int}{ob fb:Nat}{s:Nat→Value}{Qc:Exit→Act→World→Prop}(hob:V.heap[ob]?=some (.cells #[.int .i64 0,.slice none 0 0,.int .i64 0,.slice none 0 0,.int .i64 0,.int .i64 0] 41 (0,0)))(hfb:V.heap[fb]?=some (.cells #[.int .i64 0,.int .i64 0,.int .i64 0,.int .i64 0] 46 (0,0)))(ho1:w.heap.size≤ob)(hf1:w.heap.size≤fb)(hbw:Below w.heap.size w V)(hM:∃ M,Lc T C f ws sc n st=M∧M.kind=0∧M.vals=[]∧M.code=0∧M.tr=[]∧M.steps=0∧M.pk=0)(hE:Lv T C f ws n st=6)(h14:s 14=.pointer (some ⟨ob,0,none⟩))(h15:s 15=.pointer (some ⟨fb,0,none⟩))(hret:∀ a w',(bodyPost Tryz.prog Tryz.f8 (Gc w T C f ws sc n st)) .ret a w'→Qc .ret a w') :
 Code.wp Tryz.prog (Ni (Nw (Sf (xT Tryz.f8 2)))) Qc (Fz s) V:=by
 have hne:ob≠fb:=Jf hob hfb (by decide);have hobV:=Zc hob;have hfbV:=Zc hfb;have hwz:=hbw.size;have HRET:=Y hret;have HM:=Y hM;have HEE:=Y hE;have HBW:=Y hbw;have HOB:=Y hob;have HFB:=Y hfb;rw [Gj,h14,h15];clear hret hM hE hbw hob hfb h14 h15;conv=>arg 2; whnf
 go_wp2_with fail
 refine(Znn 6 V).mono ?_;rintro e w3 ⟨rfl,hb3⟩;have hs3:=hb3.size;have HB3:=Y (Zb (O HBW) hb3 hwz);have HC2:=Y ((hb3.block ob hobV).trans (O HOB));have HC3:=Y ((hb3.block fb hfbV).trans (O HFB));clear hb3;unfold flt;go_wp2_with (first | (refine wpList_store_row rfl 41 _ _ rfl ob #[.int .i64 0,.slice none 0 0,.int .i64 0,.slice none 0 0,.int .i64 0,.int .i64 0] rfl rfl 41 _ (O HC2) (Tryz.infOutX.trans rfl) rfl (by simp [Value.oneCell']) ?_) | (refine wpList_store_row rfl 46 _ _ rfl fb #[.int .i64 6,.int .i64 (-1),.int .i64 (-1),.int .i64 (-1)] rfl rfl 46 _ ((setRow_other _ _ _ _ (by omega)).trans (O HC3)) (Tryz.infRFx.trans rfl) rfl (by simp [Value.oneCell']) ?_))
 refine O HRET _ _ ?_;refine bodyPost_ret (Nq (fn:=Tryz.f8) (p:=14) (q:=15) (px:=41) (uy:=46) rfl _ _ ob 41 #[.int .i64 0,.slice none 0 0,.int .i64 0,.slice none 0 0,.int .i64 0,.int .i64 0] (0,0) _ fb 46 #[.int .i64 6,.int .i64 (-1),.int .i64 (-1),.int .i64 (-1)] (0,0) _ rfl ((setRow_other _ _ _ _ (by omega)).trans (setRow_heap _ _ _ _ _ _ (O HC2))) Tryz.underlying41 rfl (Tryz.infOutX.trans rfl) rfl (setRow_heap _ _ _ _ _ _ ((setRow_other _ _ _ _ (by omega)).trans (O HC3))) Tryz.underlying46 rfl (Tryz.infRFx.trans rfl)) rfl ?_;obtain⟨M,e1,e2,e3,e4,e5,e6,e7⟩:=O HM;unfold Gc;rw [e1,O HEE,e2,e3,e4,e5,e6,e7];exact⟨_,_,[],rfl,World.ownsRow_nil _ _ _ _,⟨rfl,World.ownsRow_nil _ _ _ _,fun k hk=>absurd hk (by simp)⟩,Zp (Zp (O HB3) (by omega)) (by omega)⟩
theorem Zzj {w V:World}{T:Zm}{C:Zk}{f:Int}{ws sc:List Int}{n st:Int}{ob fb:Nat}{s:Nat→Value}{Qc:Exit→Act→World→Prop}(hob:V.heap[ob]?=some (.cells #[.int .i64 0,.slice none 0 0,.int .i64 0,.slice none 0 0,.int .i64 0,.int .i64 0] 41 (0,0)))(hfb:V.heap[fb]?=some (.cells #[.int .i64 0,.int .i64 0,.int .i64 0,.int .i64 0] 46 (0,0)))(ho1:w.heap.size≤ob)(hf1:w.heap.size≤fb)(hbw:Below w.heap.size w V)(hM:∃ M,Lc T C f ws sc n st=M∧M.kind=4∧M.vals=[]∧M.code=0∧M.tr=[]∧M.steps=0∧M.pk=0)(hE:Lv T C f ws n st=0)(h14:s 14=.pointer (some ⟨ob,0,none⟩))(h15:s 15=.pointer (some ⟨fb,0,none⟩))(hret:∀ a w',(bodyPost Tryz.prog Tryz.f8 (Gc w T C f ws sc n st)) .ret a w'→Qc .ret a w') :
 Code.wp Tryz.prog (Ni (Nw (Sf (xT Tryz.f8 6)))) Qc (Fz s) V:=by
 have hne:ob≠fb:=Jf hob hfb (by decide);have hobV:=Zc hob;have hfbV:=Zc hfb;have hwz:=hbw.size;have HRET:=Y hret;have HM:=Y hM;have HEE:=Y hE;have HBW:=Y hbw;have HOB:=Y hob;have HFB:=Y hfb;rw [Gj,h14,h15];clear hret hM hE hbw hob hfb h14 h15;conv=>arg 2; whnf
 go_wp2_with fail
 refine(Znm V).mono ?_;rintro e w3 ⟨rfl,hb3⟩;have hs3:=hb3.size;have HB3:=Y (Zb (O HBW) hb3 hwz);have HC2:=Y ((hb3.block ob hobV).trans (O HOB));have HC3:=Y ((hb3.block fb hfbV).trans (O HFB));clear hb3;unfold flt;go_wp2_with (first | (refine wpList_store_row rfl 41 _ _ rfl ob #[.int .i64 4,.slice none 0 0,.int .i64 0,.slice none 0 0,.int .i64 0,.int .i64 0] rfl rfl 41 _ (O HC2) (Tryz.infOutX.trans rfl) rfl (by simp [Value.oneCell']) ?_) | (refine wpList_store_row rfl 46 _ _ rfl fb #[.int .i64 0,.int .i64 (-1),.int .i64 (-1),.int .i64 (-1)] rfl rfl 46 _ ((setRow_other _ _ _ _ (by omega)).trans (O HC3)) (Tryz.infRFx.trans rfl) rfl (by simp [Value.oneCell']) ?_))
 refine O HRET _ _ ?_;refine bodyPost_ret (Nq (fn:=Tryz.f8) (p:=14) (q:=15) (px:=41) (uy:=46) rfl _ _ ob 41 #[.int .i64 4,.slice none 0 0,.int .i64 0,.slice none 0 0,.int .i64 0,.int .i64 0] (0,0) _ fb 46 #[.int .i64 0,.int .i64 (-1),.int .i64 (-1),.int .i64 (-1)] (0,0) _ rfl ((setRow_other _ _ _ _ (by omega)).trans (setRow_heap _ _ _ _ _ _ (O HC2))) Tryz.underlying41 rfl (Tryz.infOutX.trans rfl) rfl (setRow_heap _ _ _ _ _ _ ((setRow_other _ _ _ _ (by omega)).trans (O HC3))) Tryz.underlying46 rfl (Tryz.infRFx.trans rfl)) rfl ?_;obtain⟨M,e1,e2,e3,e4,e5,e6,e7⟩:=O HM;unfold Gc;rw [e1,O HEE,e2,e3,e4,e5,e6,e7];exact⟨_,_,[],rfl,World.ownsRow_nil _ _ _ _,⟨rfl,World.ownsRow_nil _ _ _ _,fun k hk=>absurd hk (by simp)⟩,Zp (Zp (O HB3) (by omega)) (by omega)⟩
theorem Zki {T:Zm}{C:Zk}{f:Int}{ws sc:List Int}{n st:Int}(h:Lv T C f ws n st≠0):∃ M,Lc T C f ws sc n st=M∧M.kind=0∧M.vals=[]∧M.code=0∧M.tr=[]∧M.steps=0∧M.pk=0:=⟨zM,by unfold Lc; rw [if_neg h],rfl,rfl,rfl,rfl,rfl,rfl⟩
theorem xt1 {w V:World}{T:Zm}{C:Zk}{f:Int}{ws sc:List Int}{n st:Int}{ob fb:Nat}{s:Nat→Value}{tb:Nat}(hob:V.heap[ob]?=some (.cells #[.int .i64 0,.slice none 0 0,.int .i64 0,.slice none 0 0,.int .i64 0,.int .i64 0] 41 (0,0)))(hfb:V.heap[fb]?=some (.cells #[.int .i64 0,.int .i64 0,.int .i64 0,.int .i64 0] 46 (0,0)))(ho1:w.heap.size≤ob)(hf1:w.heap.size≤fb)(hbw:Below w.heap.size w V)(hrt:V.heap[tb]?=some (.cells T.box 25 (0,0)))(hT:TbO w T)(h7:s 7=.pointer (some ⟨tb,0,none⟩))(h14:s 14=.pointer (some ⟨ob,0,none⟩))(h15:s 15=.pointer (some ⟨fb,0,none⟩))(hnext:Ow T=true→∀(V':World) (s':Nat→Value),Below V.heap.size V V'→s' 2=s 2→s' 3=s 3→s' 4=s 4→s' 5=s 5→s' 6=s 6→s' 7=s 7→s' 8=s 8→s' 14=s 14→s' 15=s 15→Code.wp Tryz.prog (xT Tryz.f8 2) (bodyPost Tryz.prog Tryz.f8 (Gc w T C f ws sc n st)) (Fz s') V') :
 Code.wp Tryz.prog (xT Tryz.f8 1) (bodyPost Tryz.prog Tryz.f8 (Gc w T C f ws sc n st)) (Fz s) V:=by
 have hTV:=hT.below hbw;have HTC:=Y (Zpc T.r T.sp T.lk T.t0 T.t1 (.slice T.pa T.ag.length T.ca) (.slice T.pr T.rs.length T.cr) (.slice T.ps T.ss.length T.cs) T.al T.sh T.br T.pairs T.ag T.rs T.ss V hTV.a.rs hTV.r.rs hTV.s.rs hTV.a.cap hTV.r.cap hTV.s.cap);have hrt':=hrt;unfold Zm.box at hrt';have e0:=(cR hrt' 0);have e1:=(cR hrt' 1);have e2:=(cR hrt' 2);have e3:=(cR hrt' 3);have e4:=(cR hrt' 4);have e5:=(cR hrt' 5);have e6:=(cR hrt' 6);have e7:=(cR hrt' 7);have e8:=(cR hrt' 8);have e9:=(cR hrt' 9);have e10:=(cR hrt' 10);have e11:=(cR hrt' 11);have HN:=Y hnext;have HBAD:=Y (fun(V':World) (s':Nat→Value) (Qc:Exit→Act→World→Prop) (hb:Below V.heap.size V V') (hE:Ow T=false) (g14:s' 14=.pointer (some ⟨ob,0,none⟩)) (g15:s' 15=.pointer (some ⟨fb,0,none⟩)) (hret:∀ a w',(bodyPost Tryz.prog Tryz.f8 (Gc w T C f ws sc n st)) .ret a w'→Qc .ret a w')=>by
  have hE2:Lv T C f ws n st=2:=by unfold Lv; rw [if_pos hE]
  exact Zzh (sc:=sc) ((hb.block ob (Zc hob)).trans hob) ((hb.block fb (Zc hfb)).trans hfb) ho1 hf1 (Zb hbw hb hbw.size) (Zki (by rw [hE2]; decide)) hE2 g14 g15 hret)
 rw [Gj,h7,h14,h15];have H7:=Y h7;have H14:=Y h14;have H15:=Y h15;clear hnext hrt hrt' hT hTV hbw hob hfb h7 h14 h15;conv=>arg 2; whnf
 refine wp_seq_k fun K hK=>?_;have HK:=Y hK;clear hK;refine wp_seq_k fun K2 hK2=>?_;have HK2:=Y hK2;clear hK2;go_wp2_with fail
 clear e0 e1 e2 e3 e4 e5 e6 e7 e8 e9 e10 e11;refine(O HTC).mono ?_;rintro e w2 ⟨rfl,hb2⟩;have HB2:=Y hb2;clear hb2 HTC;cases ht:Ls T.r T.sp T.lk T.t0 T.t1 T.ag T.rs T.ss T.al T.sh T.br with
 | false =>
  have HT2:=Y (show Ow T=false from ht);clear ht;go_wp2_with fail
  refine O HK2 _ _ (wp_cond_true rfl ?_);refine Yd (Q:=fun a w=>Code.wp Tryz.prog (Ni (Nw (Sf (xT Tryz.f8 1)))) _ a w) _ rfl ?_;exact O HBAD _ _ _ (O HB2) (O HT2) rfl rfl (fun a w' h=>h)
 | true =>
  have HT2:=Y (show Ow T=true from ht);clear ht;go_wp2_with fail
  refine O HK2 _ _ (wp_cond_false rfl (wp_skip ?_));refine O HK _ _ ?_;refine Yd (Q:=fun a w=>Code.wp Tryz.prog (xT Tryz.f8 2) _ a w) _ rfl ?_;exact O HN (O HT2) _ _ (O HB2) rfl rfl rfl rfl rfl (O H7).symm rfl (O H14).symm (O H15).symm
set_option maxHeartbeats 4000000
set_option maxRecDepth 100000
theorem Zzk {ps:List Int}(h:Gu ps 0 8=true):∀ k,k<ps.length→0≤ps.getD k 0∧ps.getD k 0≤8:=fun k hk=>by
 unfold Gu at h;have:=Ut h hk;unfold Nf at this;exact of_decide_eq_true this
theorem Yaz {T:Zm}{C:Zk}{f:Int}{ws:List Int}{n st:Int}(hT:Ow T=true)(h:C.sigs.length=C.funcs.length∧C.sigs.all Xy=true∧C.externs.all Xy=true∧(0≤f∧f<(C.funcs.length:Int))∧(0≤n∧n≤65536∧n % 32=0)∧(0≤st∧st≤4194304)∧ws.length=Yl (C.sigs.getD f.toNat ([],0)).1):Lv T C f ws n st=0:=by
 obtain⟨h1,h2,h3,h4,h5,h6,h7⟩:=h;unfold Lv Sv Zhq Zaw;rw [if_neg (by rw [hT]; decide),decide_eq_true h1,h2,h3,decide_eq_true h4,decide_eq_true h7,decide_eq_true h5,decide_eq_true h6];rfl
theorem Zdg {T:Zm}{C:Zk}{f:Int}{ws:List Int}{n st:Int}(hT:Ow T=true)(h:¬ (C.sigs.length=C.funcs.length∧C.sigs.all Xy=true∧C.externs.all Xy=true∧(0≤f∧f<(C.funcs.length:Int))∧(0≤n∧n≤65536∧n % 32=0)∧(0≤st∧st≤4194304)∧ws.length=Yl (C.sigs.getD f.toNat ([],0)).1)):Lv T C f ws n st=6:=by
 unfold Lv;rw [if_neg (by rw [hT]; decide),if_pos];rw [Bool.eq_false_iff];intro hb;unfold Sv Zhq Zaw at hb;simp only [Bool.and_eq_true,decide_eq_true_eq] at hb;obtain⟨⟨h1,h2,h3⟩,⟨h4,h7⟩,h5,h6⟩:=hb;exact h ⟨h1,h2,h3,h4,h5,h6,h7⟩
theorem xt2 {w V:World}{T:Zm}{C:Zk}{f:Int}{ws sc:List Int}{n st:Int}{ob fb cb A csc cfc cec ac:Nat}{csp cfp cep ap:Option Addr}{s:Nat→Value}(hob:V.heap[ob]?=some (.cells #[.int .i64 0,.slice none 0 0,.int .i64 0,.slice none 0 0,.int .i64 0,.int .i64 0] 41 (0,0)))(hfb:V.heap[fb]?=some (.cells #[.int .i64 0,.int .i64 0,.int .i64 0,.int .i64 0] 46 (0,0)))(ho1:w.heap.size≤ob)(hf1:w.heap.size≤fb)(hbw:Below w.heap.size w V)(htT:Ow T=true)(hrc:V.heap[cb]?=some (.cells #[.slice csp C.sigs.length csc,.slice cfp C.funcs.length cfc,.slice cep C.externs.length cec] 29 (0,0)))(hS:Na V A (.slice csp C.sigs.length csc) C.sigs)(hX:Na V A (.slice cep C.externs.length cec) C.externs)(hA:A≤V.heap.size)(hfl:C.funcs.length≤1099511627776)(h2:s 2=.int .i64 f)(h3:s 3=.slice ap ws.length ac)(h5:s 5=.int .i64 n)(h6:s 6=.int .i64 st)(h8:s 8=.pointer (some ⟨cb,0,none⟩))(h14:s 14=.pointer (some ⟨ob,0,none⟩))(h15:s 15=.pointer (some ⟨fb,0,none⟩))(hnext:Lv T C f ws n st=0→∀(V':World) (s':Nat→Value),Below V.heap.size V V'→s' 2=s 2→s' 3=s 3→s' 5=s 5→s' 6=s 6→s' 7=s 7→s' 8=s 8→s' 14=s 14→s' 15=s 15→s' 4=s 4→Code.wp Tryz.prog (xT Tryz.f8 3) (bodyPost Tryz.prog Tryz.f8 (Gc w T C f ws sc n st)) (Fz s') V') :
 Code.wp Tryz.prog (xT Tryz.f8 2) (bodyPost Tryz.prog Tryz.f8 (Gc w T C f ws sc n st)) (Fz s) V:=by
 have hcbV:=Zc hrc;have HN:=Y hnext;have HRC:=Y hrc;have HS:=Y (fun V' (hb:Below V.heap.size V V')=>hS.below hb hA);have HX:=Y (fun V' (hb:Below V.heap.size V V')=>hX.below hb hA);have HBAD:=Y (fun(V':World) (s':Nat→Value) (Qc:Exit→Act→World→Prop) (hb:Below V.heap.size V V') (hE:Lv T C f ws n st=6) (g14:s' 14=.pointer (some ⟨ob,0,none⟩)) (g15:s' 15=.pointer (some ⟨fb,0,none⟩)) (hret:∀ a w',(bodyPost Tryz.prog Tryz.f8 (Gc w T C f ws sc n st)) .ret a w'→Qc .ret a w') =>
  Zzi (sc:=sc) ((hb.block ob (Zc hob)).trans hob) ((hb.block fb (Zc hfb)).trans hfb) ho1 hf1 (Zb hbw hb hbw.size) (Zki (by rw [hE]; decide)) hE g14 g15 hret)
 have rc:=((Below.refl V.heap.size V).block cb hcbV).trans (O HRC);have k0:=cR rc 0;have k1:=cR rc 1;have k2:=cR rc 2;clear rc;rw [Gj,h2,h3,h5,h6,h8,h14,h15];have HS2:=Y h2;have HS3:=Y h3;have HS5:=Y h5;have HS6:=Y h6;have H8:=Y h8;have H14:=Y h14;have H15:=Y h15;clear hnext hrc hS hX hbw hob hfb h2 h3 h5 h6 h8 h14 h15;conv=>arg 2; whnf
 refine wp_seq_k fun K hK=>?_;have HK:=Y hK;clear hK;refine wp_seq_k fun K2 hK2=>?_;have HK2:=Y hK2;clear hK2;by_cases h1:C.sigs.length=C.funcs.length
 ·
  have hlb:((C.sigs.length:Int) != (C.funcs.length:Int))=false:=by rw [h1]; simp
  have H1:=Y h1;clear h1;go_wp2_with fail
  clear k0 k1 k2;refine(Zfz C.sigs _ V A (O HS V (Below.refl _ _)) hA).mono ?_;rintro e w1 ⟨rfl,hb1⟩;have HB1:=Y hb1;clear hb1;cases h2:C.sigs.all Xy with
  | false =>
   have HE6:=Y (show Lv T C f ws n st=6 from Zdg htT (fun h=>by
    obtain⟨-,h,-⟩:=h;rw [h2] at h; cases h))
   clear h2;go_wp2_with fail
   refine O HK2 _ _ (wp_cond_true rfl ?_);refine Yd (Q:=fun a w=>Code.wp Tryz.prog (Ni (Nw (Sf (xT Tryz.f8 2)))) _ a w) _ rfl ?_;exact O HBAD _ _ _ (O HB1) (O HE6) rfl rfl (fun a w' h=>h)
  | true =>
   have H2:=Y h2;clear h2;have rc:=((O HB1).block cb hcbV).trans (O HRC);have k0:=cR rc 0;have k1:=cR rc 1;have k2:=cR rc 2;clear rc;go_wp2_with fail
   clear k0 k1 k2;refine(Zfz C.externs _ w1 A (O HX w1 (O HB1)) (Nat.le_trans hA (O HB1).size)).mono ?_;rintro e w2 ⟨rfl,hb2⟩;have HB2:=Y (Zb (O HB1) hb2 (O HB1).size);clear hb2;cases h3:C.externs.all Xy with
   | false =>
    have HE6:=Y (show Lv T C f ws n st=6 from Zdg htT (fun h=>by
     obtain⟨-,-,h,-⟩:=h;rw [h3] at h; cases h))
    clear h3;go_wp2_with fail
    refine O HK2 _ _ (wp_cond_true rfl ?_);refine Yd (Q:=fun a w=>Code.wp Tryz.prog (Ni (Nw (Sf (xT Tryz.f8 2)))) _ a w) _ rfl ?_;exact O HBAD _ _ _ (O HB2) (O HE6) rfl rfl (fun a w' h=>h)
   | true =>
    have H3:=Y h3;clear h3;have rc:=((O HB2).block cb hcbV).trans (O HRC);have k0:=cR rc 0;have k1:=cR rc 1;have k2:=cR rc 2;clear rc;go_wp2_with fail
    refine(Mq f 0 ((C.funcs.length:Int)-1) w2).mono ?_;rintro e w3 ⟨rfl,hw3⟩;subst w3;cases h4:Nf f 0 ((C.funcs.length:Int)-1) with
    | false =>
     have HE6:=Y (show Lv T C f ws n st=6 from Zdg htT (fun h=>by
      obtain⟨-,-,-,h,-,-,-⟩:=h;unfold Nf at h4; have:=of_decide_eq_false h4; omega))
     clear h4;go_wp2_with fail
     refine O HK2 _ _ (wp_cond_true rfl ?_);refine Yd (Q:=fun a w=>Code.wp Tryz.prog (Ni (Nw (Sf (xT Tryz.f8 2)))) _ a w) _ rfl ?_;exact O HBAD _ _ _ (O HB2) (O HE6) rfl rfl (fun a w' h=>h)
    | true =>
     clear k0 k1 k2;go_wp2_with fail
     refine(Mq n 0 65536 w2).mono ?_;rintro e w3 ⟨rfl,hw3⟩;subst w3;cases h5:Nf n 0 65536 with
     | false =>
      have HE6:=Y (show Lv T C f ws n st=6 from Zdg htT (fun h=>by
       obtain⟨-,-,-,-,h,-,-⟩:=h;unfold Nf at h5; have:=of_decide_eq_false h5; omega))
      clear h5;go_wp2_with fail
      refine O HK2 _ _ (wp_cond_true rfl ?_);refine Yd (Q:=fun a w=>Code.wp Tryz.prog (Ni (Nw (Sf (xT Tryz.f8 2)))) _ a w) _ rfl ?_;exact O HBAD _ _ _ (O HB2) (O HE6) rfl rfl (fun a w' h=>h)
     | true =>
      have H5:=Y (show 0≤n∧n≤65536 by unfold Nf at h5; have:=of_decide_eq_true h5; omega);clear h5;have h5':=O H5;have htm:Int.tmod n 32=n % 32:=Int.tmod_eq_emod_of_nonneg h5'.1;by_cases h6:n % 32=0
      ·
       have H6:=Y h6;have hb6:(n % 32 != 0)=false:=by rw [h6]; rfl
       have hb6':(Int.tmod n 32 != 0)=false:=by rw [htm]; exact hb6
       clear h6;go_wp2_with fail
       refine(Mq st 0 4194304 w2).mono ?_;rintro e w3 ⟨rfl,hw3⟩;subst w3;cases h7:Nf st 0 4194304 with
       | false =>
        have HE6:=Y (show Lv T C f ws n st=6 from Zdg htT (fun h=>by
         obtain⟨-,-,-,-,-,h,-⟩:=h;unfold Nf at h7; have:=of_decide_eq_false h7; omega))
        clear h7;go_wp2_with fail
        refine O HK2 _ _ (wp_cond_true rfl ?_);refine Yd (Q:=fun a w=>Code.wp Tryz.prog (Ni (Nw (Sf (xT Tryz.f8 2)))) _ a w) _ rfl ?_;exact O HBAD _ _ _ (O HB2) (O HE6) rfl rfl (fun a w' h=>h)
       | true =>
        have H7:=Y (show 0≤st∧st≤4194304 by unfold Nf at h7; have:=of_decide_eq_true h7; omega);clear h7;have hfN:0≤f∧f<(C.funcs.length:Int):=by unfold Nf at h4; have:=of_decide_eq_true h4; omega
        obtain⟨fN,hf⟩:∃ k:Nat,f=k:=⟨f.toNat,by omega⟩;have hfs:fN<C.sigs.length:=by have:=O H1; omega
        obtain⟨g,so,lv,hp,hgA,d0,d1,hli,hrsb⟩:=(O HS w2 (O HB2)).cells fN hfs;subst hp;have hok:=Ik (List.all_eq_true.1 (O H2) (C.sigs.getD fN ([],0)) (by rw [List.getD_eq_getElem?_getD,List.getElem?_eq_getElem hfs]; exact List.getElem_mem hfs));generalize hsgE:C.sigs.getD fN ([],0)=sgn at d1 hli hrsb hok;have HSG:=Y hsgE;clear hsgE;obtain⟨ps,nr⟩:=sgn;simp only at d1 hli hrsb;have HFL:=Y (Zpw lv ps nr w2 hli hok.l (Zzk hok.n));have hfI:(fN:Int)<(C.sigs.length:Int):=by omega
        have hff:fN<C.funcs.length:=by have:=O H1; omega
        obtain⟨lp,lc,hlv⟩:=hli.shape;subst hlv;have HD0:=Y d0;subst hf;have rc:=((O HB2).block cb hcbV).trans (O HRC);have k0:=cR rc 0;have k1:=cR rc 1;have k2:=cR rc 2;clear rc;clear hli hrsb h4 hfN;go_wp2_with fail
        clear k0 k1 k2 d0 d1;refine(O HFL).mono ?_;rintro e w3 ⟨rfl,hb3⟩;have HB3:=Y (Zb (O HB2) hb3 (O HB2).size);have HGOOD:=Y (fun(h8:ws.length=Yl ps)=>show Lv T C (fN:Int) ws n st=0 from Yaz htT ⟨O H1,O H2,O H3,by omega,⟨(O H5).1,(O H5).2,O H6⟩,O H7,by rw [Int.toNat_natCast,O HSG]; exact h8⟩);have HBAD8:=Y (fun(h8:ws.length≠Yl ps)=>show Lv T C (fN:Int) ws n st=6 from Zdg htT (fun h=>h8 (by have:=h.2.2.2.2.2.2; rw [Int.toNat_natCast,O HSG] at this; exact this)));clear hb3 HFL hok;generalize hfp:Yl ps=fl at HGOOD HBAD8 ⊢;have HFP:=Y hfp;clear hfp;by_cases h8:ws.length=fl
        ·
         have hlb:((ws.length:Int) != (fl:Int))=false:=by rw [h8]; simp
         have HE0:=Y (O HGOOD h8);clear h8;go_wp2_with fail
         refine O HK2 _ _ (wp_cond_false rfl (wp_skip ?_));refine O HK _ _ ?_;refine Yd (Q:=fun a w=>Code.wp Tryz.prog (xT Tryz.f8 3) _ a w) _ rfl ?_;exact O HN (O HE0) _ _ (O HB3) (O HS2).symm (O HS3).symm (O HS5).symm (O HS6).symm rfl (O H8).symm (O H14).symm (O H15).symm rfl
        ·
         have hlb:((ws.length:Int) != (fl:Int))=true:=by simp; omega
         have HE6:=Y (O HBAD8 h8);clear h8;go_wp2_with fail
         refine O HK2 _ _ (wp_cond_true rfl ?_);refine Yd (Q:=fun a w=>Code.wp Tryz.prog (Ni (Nw (Sf (xT Tryz.f8 2)))) _ a w) _ rfl ?_;exact O HBAD _ _ _ (O HB3) (O HE6) rfl rfl (fun a w' h=>h)
      ·
       have hb6:(n % 32 != 0)=true:=by simp [h6]
       have hb6':(Int.tmod n 32 != 0)=true:=by rw [htm]; exact hb6
       have HE6:=Y (show Lv T C f ws n st=6 from Zdg htT (fun h=>by
        obtain⟨-,-,-,-,h,-,-⟩:=h;exact h6 h.2.2))
       go_wp2_with fail
       refine O HK2 _ _ (wp_cond_true rfl ?_);refine Yd (Q:=fun a w=>Code.wp Tryz.prog (Ni (Nw (Sf (xT Tryz.f8 2)))) _ a w) _ rfl ?_;exact O HBAD _ _ _ (O HB2) (O HE6) rfl rfl (fun a w' h=>h)
 ·
  have hlb:((C.sigs.length:Int) != (C.funcs.length:Int))=true:=by simp; omega
  have HE6:=Y (show Lv T C f ws n st=6 from Zdg htT (fun h=>by
   obtain⟨h,-⟩:=h;exact h1 h))
  clear h1;go_wp2_with fail
  refine O HK2 _ _ (wp_cond_true rfl ?_);refine Yd (Q:=fun a w=>Code.wp Tryz.prog (Ni (Nw (Sf (xT Tryz.f8 2)))) _ a w) _ rfl ?_;exact O HBAD _ _ _ (Below.refl _ _) (O HE6) rfl rfl (fun a w' h=>h)
set_option maxHeartbeats 4000000
set_option maxRecDepth 100000
theorem xt3 {V:World}{T:Zm}{s:Nat→Value}{Q:Exit→Act→World→Prop}{tb cb sg so csn csc fN lc:Nat}{lp:Option Addr}{ps:List Int}{nr:Int}(hQp:∀ c (a:Act) d v w,Q (.panic c) (a.put d v) w→Q (.panic c) a w)(hT:TbO V T)(hag:T.ag.length≤100)(hrs:T.rs.length≤100)(hs0:0≤T.sh)(hs1:T.sh≤100)(hsg:Mt (ps,nr))(hrt:V.heap[tb]?=some (.cells T.box 25 (0,0)))(hk0:V.cell? ⟨cb,0,none⟩=some (.slice (some ⟨sg,so,none⟩) csn csc))(hfs:fN<csn)(hd0:V.cell? ⟨sg,so+fN*2,none⟩=some (.slice lp ps.length lc))(hd1:V.cell? ⟨sg,so+fN*2+1,none⟩=some (.int .i64 nr))(hli:Li V (.slice lp ps.length lc) ps)(h2:s 2=.int .i64 (fN:Int))(h7:s 7=.pointer (some ⟨tb,0,none⟩))(h8:s 8=.pointer (some ⟨cb,0,none⟩))(hnext:∀(V':World) (s':Nat→Value) (lb:Nat) (ap:Option Addr) (ac:Nat) (rp:Option Addr) (rc:Nat) (pvs:List Value),Below V.heap.size V V'→Yo V' V.heap.size (.slice ap (Zr T (ps,nr)).args.length ac) (.slice rp (Zr T (ps,nr)).res.length rc) (Zr T (ps,nr)) pvs→V'.heap[lb]?=some (.cells #[.slice ap (Zr T (ps,nr)).args.length ac,.slice rp (Zr T (ps,nr)).res.length rc,.int .i64 (Zr T (ps,nr)).size,.int .i64 (Zr T (ps,nr)).copies] 76 (0,0))→V.heap.size≤lb→s' 2=s 2→s' 3=s 3→s' 4=s 4→s' 5=s 5→s' 6=s 6→s' 7=s 7→s' 8=s 8→s' 14=s 14→s' 15=s 15→s' 16=.pointer (some ⟨lb,0,none⟩)→Code.wp Tryz.prog (xT Tryz.f8 4) Q (Fz s') V') :
 Code.wp Tryz.prog (xT Tryz.f8 3) Q (Fz s) V:=by
 have HN:=Y hnext;have htb:=Zc hrt;have hcb:=World.block_lt_of_cell? _ _ hk0;have hsgb:=World.block_lt_of_cell? _ _ hd0;have HRT:=Y hrt;have HK0:=Y hk0;have HD0:=Y hd0;have HD1:=Y hd1;have HLF:=Y (fun V' (hb:Below V.heap.size V V')=>Zuh hT hag hrs hs0 hs1 hb hsg (hli.below hb));have HC0:=Y (show Below V.heap.size V V.drew from(Below.refl _ _).drew);have hfI:(fN:Int)<(csn:Int):=by omega
 generalize Zr T (ps,nr)=l at HLF HN;rw [Gj,h2,h7,h8];have H2:=Y h2;have H7:=Y h7;have H8:=Y h8;clear hnext hrt hk0 hd0 hd1 hT hli h2 h7 h8 hsg;simp only at hcb hsgb;conv=>arg 2; whnf
 refine wp_seq_k fun K hK=>?_;have HK:=Y hK;clear hK;go_upto_region 5 with fail
 refine Zh (C:=fun V9=>Below V.heap.size V V9) (d:=8) (by kernel_rfl) ?_;refine vT (v:=?vt0) 0 (O HC0) ?_ (hy:=?yt0) (hQ:=fun c _ _ h=>hQp c _ _ _ _ h);case yt0 =>
  intro V9 hV;have r9:=(hV.block tb htb).trans (O HRT);have e0:=cR r9 0;have e1:=cR r9 1;have e2:=cR r9 2;have e3:=cR r9 3;have e4:=cR r9 4;have e5:=cR r9 5;have e6:=cR r9 6;have e7:=cR r9 7;have e8:=cR r9 8;have e9:=cR r9 9;have e10:=cR r9 10;have e11:=cR r9 11;have k0:=(World.cell?_of_block (hV.block cb hcb)).trans (O HK0);have d0:=(World.cell?_of_block (hV.block sg hsgb)).trans (O HD0);have d1:=(World.cell?_of_block (hV.block sg hsgb)).trans (O HD1);clear r9 hV;go_simp;all_goals (with_reducible rfl)
 refine vT (v:=?vt1) 1 (O HC0) ?_ (hy:=?yt1) (hQ:=fun c _ _ h=>hQp c _ _ _ _ h);case yt1 =>
  intro V9 hV;have r9:=(hV.block tb htb).trans (O HRT);have e0:=cR r9 0;have e1:=cR r9 1;have e2:=cR r9 2;have e3:=cR r9 3;have e4:=cR r9 4;have e5:=cR r9 5;have e6:=cR r9 6;have e7:=cR r9 7;have e8:=cR r9 8;have e9:=cR r9 9;have e10:=cR r9 10;have e11:=cR r9 11;have k0:=(World.cell?_of_block (hV.block cb hcb)).trans (O HK0);have d0:=(World.cell?_of_block (hV.block sg hsgb)).trans (O HD0);have d1:=(World.cell?_of_block (hV.block sg hsgb)).trans (O HD1);clear r9 hV;go_simp;all_goals (with_reducible rfl)
 refine vT (v:=?vt2) 2 (O HC0) ?_ (hy:=?yt2) (hQ:=fun c _ _ h=>hQp c _ _ _ _ h);case yt2 =>
  intro V9 hV;have r9:=(hV.block tb htb).trans (O HRT);have e0:=cR r9 0;have e1:=cR r9 1;have e2:=cR r9 2;have e3:=cR r9 3;have e4:=cR r9 4;have e5:=cR r9 5;have e6:=cR r9 6;have e7:=cR r9 7;have e8:=cR r9 8;have e9:=cR r9 9;have e10:=cR r9 10;have e11:=cR r9 11;have k0:=(World.cell?_of_block (hV.block cb hcb)).trans (O HK0);have d0:=(World.cell?_of_block (hV.block sg hsgb)).trans (O HD0);have d1:=(World.cell?_of_block (hV.block sg hsgb)).trans (O HD1);clear r9 hV;go_simp;all_goals (with_reducible rfl)
 refine vT (v:=?vt3) 3 (O HC0) ?_ (hy:=?yt3) (hQ:=fun c _ _ h=>hQp c _ _ _ _ h);case yt3 =>
  intro V9 hV;have r9:=(hV.block tb htb).trans (O HRT);have e0:=cR r9 0;have e1:=cR r9 1;have e2:=cR r9 2;have e3:=cR r9 3;have e4:=cR r9 4;have e5:=cR r9 5;have e6:=cR r9 6;have e7:=cR r9 7;have e8:=cR r9 8;have e9:=cR r9 9;have e10:=cR r9 10;have e11:=cR r9 11;have k0:=(World.cell?_of_block (hV.block cb hcb)).trans (O HK0);have d0:=(World.cell?_of_block (hV.block sg hsgb)).trans (O HD0);have d1:=(World.cell?_of_block (hV.block sg hsgb)).trans (O HD1);clear r9 hV;go_simp;all_goals (with_reducible rfl)
 refine vT (v:=?vt4) 4 (O HC0) ?_ (hy:=?yt4) (hQ:=fun c _ _ h=>hQp c _ _ _ _ h);case yt4 =>
  intro V9 hV;have r9:=(hV.block tb htb).trans (O HRT);have e0:=cR r9 0;have e1:=cR r9 1;have e2:=cR r9 2;have e3:=cR r9 3;have e4:=cR r9 4;have e5:=cR r9 5;have e6:=cR r9 6;have e7:=cR r9 7;have e8:=cR r9 8;have e9:=cR r9 9;have e10:=cR r9 10;have e11:=cR r9 11;have k0:=(World.cell?_of_block (hV.block cb hcb)).trans (O HK0);have d0:=(World.cell?_of_block (hV.block sg hsgb)).trans (O HD0);have d1:=(World.cell?_of_block (hV.block sg hsgb)).trans (O HD1);clear r9 hV;go_simp;all_goals (with_reducible rfl)
 refine vT (v:=?vt5) 5 (O HC0) ?_ (hy:=?yt5) (hQ:=fun c _ _ h=>hQp c _ _ _ _ h);case yt5 =>
  intro V9 hV;have r9:=(hV.block tb htb).trans (O HRT);have e0:=cR r9 0;have e1:=cR r9 1;have e2:=cR r9 2;have e3:=cR r9 3;have e4:=cR r9 4;have e5:=cR r9 5;have e6:=cR r9 6;have e7:=cR r9 7;have e8:=cR r9 8;have e9:=cR r9 9;have e10:=cR r9 10;have e11:=cR r9 11;have k0:=(World.cell?_of_block (hV.block cb hcb)).trans (O HK0);have d0:=(World.cell?_of_block (hV.block sg hsgb)).trans (O HD0);have d1:=(World.cell?_of_block (hV.block sg hsgb)).trans (O HD1);clear r9 hV;go_simp;all_goals (with_reducible rfl)
 refine Oz 6 7 (fun K9 hK=>?_) (fun K9 hK=>?_)
 ·
  go_simp;refine(O HLF V.drew (Below.refl _ _).drew).mono ?_;rintro e w2 ⟨av,rv,pvs,rfl,hly2,hb2⟩;obtain⟨ap,ac,rfl⟩:=Ze hly2.args;obtain⟨rp,rc,rfl⟩:=Ze hly2.res;have HB2:=Y (Zb (show Below V.heap.size V V.drew from(Below.refl _ _).drew) hb2 (Nat.le_refl _));have HLY2:=Y (show Yo w2 V.heap.size (.slice ap l.args.length ac) (.slice rp l.res.length rc) l pvs from hly2);clear hly2 hb2;refine kO hK (fun _=>O HB2) ?_;clear hK K9;have HB3:=Y (Zb (O HB2) (Zs w2 (.cells #[.slice none 0 0,.slice none 0 0,.int .i64 0,.int .i64 0] 76 (0,0))).2.1 (O HB2).size);refine vO 7 fun K9 hK=>?_;go_simp;refine kO hK (fun _=>O HB3) ?_;clear hK K9;refine vO 8 fun K9 hK=>?_;go_simp;refine kO hK (fun hx=>by cases hx) ?_;clear hK K9;refine Zi (by kernel_rfl) ?_ _;obtain⟨r9,hb9,hz9⟩:=Zs w2 (.cells #[.slice ap l.args.length ac,.slice rp l.res.length rc,.int .i64 l.size,.int .i64 l.copies] 76 (0,0));refine O HK _ _ ?_;refine Yd (Q:=fun a w=>Code.wp Tryz.prog (xT Tryz.f8 4) _ a w) _ rfl ?_;exact O HN _ _ w2.heap.size ap ac rp rc pvs (Zb (O HB2) hb9 (O HB2).size) (Yo.belx (O HLY2) hb9) (r9) ((O HB2).size) (O H2).symm rfl rfl rfl rfl (O H7).symm (O H8).symm rfl rfl rfl
 ·
  have H0:=Y (show Below V.heap.size V (V.alloc (.cells #[.slice none 0 0,.slice none 0 0,.int .i64 0,.int .i64 0] 76 (0,0))).drew from(Zs V _).2.1.drew);have HY0:=Y (show(V.alloc (.cells #[.slice none 0 0,.slice none 0 0,.int .i64 0,.int .i64 0] 76 (0,0))).drew.heap[V.heap.size]?=_ from(Zs V (.cells #[.slice none 0 0,.slice none 0 0,.int .i64 0,.int .i64 0] 76 (0,0))).1);go_simp;refine kO hK (fun _=>O H0) ?_;clear hK K9;generalize World.drew (World.alloc V _)=W1 at H0 HY0 ⊢;refine vO 6 fun K9 hK=>?_;go_simp;refine(O HLF W1 (O H0)).mono ?_;rintro e w2 ⟨av,rv,pvs,rfl,hly2,hb2⟩;obtain⟨ap,ac,rfl⟩:=Ze hly2.args;obtain⟨rp,rc,rfl⟩:=Ze hly2.res;have HB2:=Y (Zb (O H0) hb2 (O H0).size);have hlt:=Zc (O HY0);have HY2:=Y ((hb2.block V.heap.size hlt).trans (O HY0));have HLY2:=Y hly2;have HLT:=Y hlt;clear hly2 hb2 hlt;refine kO hK (fun _=>O HB2) ?_;clear hK K9;have x0:=((cR (O HY2) 0):_=some (Value.slice none 0 0));have x1:=((cR (O HY2) 1):_=some (Value.slice none 0 0));have x2:=((cR (O HY2) 2):_=some (Value.int .i64 0));have x3:=((cR (O HY2) 3):_=some (Value.int .i64 0));have z0:=frozen_of_row _ _ 0 _ _ (O HY2);have z1:=frozen_of_row _ _ 1 _ _ (O HY2);have z2:=frozen_of_row _ _ 2 _ _ (O HY2);have z3:=frozen_of_row _ _ 3 _ _ (O HY2);refine vO 8 fun K9 hK=>?_;go_simp;refine kO hK (fun hx=>by cases hx) ?_;clear hK K9;refine Zi (by kernel_rfl) ?_ _;have ho:=Zx (Zx (Zx (Zl V.heap.size 0 w2 (.slice ap l.args.length ac)) (Zl V.heap.size 1 _ (.slice rp l.res.length rc))) (Zl V.heap.size 2 _ (.int .i64 l.size))) (Zl V.heap.size 3 _ (.int .i64 l.copies))
  refine O HK _ _ ?_;refine Yd (Q:=fun a w=>Code.wp Tryz.prog (xT Tryz.f8 4) _ a w) _ rfl ?_;exact O HN _ _ V.heap.size ap ac rp rc pvs (Jj (Jj (Jj (Jj (O HB2) (Nat.le_refl _)) (Nat.le_refl _)) (Nat.le_refl _)) (Nat.le_refl _)) (Yo.lowx (Yo.kpx (O HLY2) fun g cs t hg _ _=>ho.oth g (by have:=O HLT; omega)) (O H0).size) (Ztz (O HY2)) (Nat.le_refl _) (O H2).symm rfl rfl rfl rfl (O H7).symm (O H8).symm rfl rfl rfl
theorem xt4 {V:World}{s:Nat→Value}{Q:Exit→Act→World→Prop}{lb:Nat}{av rv:Value}{l:Yc}(hrl:V.heap[lb]?=some (.cells #[av,rv,.int .i64 l.size,.int .i64 l.copies] 76 (0,0)))(h0:0≤l.size)(h1:l.size≤1000)(h3:0≤l.copies)(h4:l.copies≤1000)(h16:s 16=.pointer (some ⟨lb,0,none⟩))(hnext:∀(s':Nat→Value),s' 2=s 2→s' 3=s 3→s' 4=s 4→s' 5=s 5→s' 6=s 6→s' 7=s 7→s' 8=s 8→s' 14=s 14→s' 15=s 15→s' 16=s 16→s' 17=.int .i64 (l.size+l.copies)→Code.wp Tryz.prog (xT Tryz.f8 5) Q (Fz s') V) :
 Code.wp Tryz.prog (xT Tryz.f8 4) Q (Fz s) V:=by
 have HN:=Y hnext;have e2:=cR hrl 2;have e3:=cR hrl 3;have hw:IntKind.i64.wrap (l.size+l.copies)=l.size+l.copies:=Nl (by omega) (by omega);have hw2:wrap64 (l.size+l.copies)=l.size+l.copies:=Zcb (by omega) (by omega);rw [Gj,h16];have H16:=Y h16;clear hnext hrl h16;conv=>arg 2; whnf
 refine wp_seq_k fun K hK=>?_;have HK:=Y hK;clear hK;go_wp2_with fail
 refine O HK _ _ ?_;refine Yd (Q:=fun a w=>Code.wp Tryz.prog (xT Tryz.f8 5) _ a w) _ rfl ?_;refine O HN _ rfl rfl rfl rfl rfl rfl rfl rfl rfl (O H16).symm ?_;show Value.int .i64 _=_;congr 1
theorem xt5 {V:World}{T:Zm}{s:Nat→Value}{Q:Exit→Act→World→Prop}{tb:Nat}{b:Int}(hal:T.al=8∨T.al=16∨T.al=32)(hrt:V.heap[tb]?=some (.cells T.box 25 (0,0)))(hb0:0≤b)(hb1:b≤2000)(h7:s 7=.pointer (some ⟨tb,0,none⟩))(h17:s 17=.int .i64 b)(hnext:∀(s':Nat→Value),s' 2=s 2→s' 3=s 3→s' 4=s 4→s' 5=s 5→s' 6=s 6→s' 7=s 7→s' 8=s 8→s' 14=s 14→s' 15=s 15→s' 16=s 16→s' 17=.int .i64 (Ml b T.al)→Code.wp Tryz.prog (xT Tryz.f8 6) Q (Fz s') V) :
 Code.wp Tryz.prog (xT Tryz.f8 5) Q (Fz s) V:=by
 have HN:=Y hnext;obtain⟨al,hall⟩:∃ a:Int,T.al=a:=⟨_,rfl⟩;obtain⟨ru,hru⟩:∃ x:Int,x=Ml b al:=⟨_,rfl⟩;rw [hall] at hal HN;rw [← hru] at HN;have hru1:b≤ru∧ru<b+al∧ru % al=0∧0<al∧al≤32:=by
  rw [hru];unfold Ml;rcases hal with h | h | h <;> subst h <;> omega
 have e8:V.cell? ⟨tb,8,none⟩=some (.int .i64 al):=by rw [← hall]; exact(cR hrt 8)
 rw [Gj,h7,h17];have H7:=Y h7;have HR:=Y hru1;have HAL:=Y hal;have hru2:ru≤2032:=by omega
 have hal0:al≠0:=by omega
 have hal1:0<al:=by omega
 clear hnext hrt h7 h17 hru hru1 hal hall;conv=>arg 2; whnf
 refine wp_seq_k fun K hK=>?_;have HK:=Y hK;clear hK;go_wp2_with fail
 go_loopw [17] (fun s17 V'=>∃ r:Int,s17=.int .i64 r∧b≤r∧r≤ru∧V'=V) (fun s17 _=>(ru-intOf s17).toNat)
 case atStart=>exact⟨b,rfl,Int.le_refl _,(O HR).1,rfl⟩
 case round =>
  obtain⟨r,rfl,hr1,hr2,hV⟩:=hrel;subst hV;have htm:Int.tmod r al=r % al:=Int.tmod_eq_emod_of_nonneg (by omega);by_cases hm:r % al=0
  ·
   have hrr:r=ru:=by
    have hq:=O HR;rcases O HAL with h | h | h <;> subst h <;> omega
   have hb9:(r % al != 0)=false:=by rw [hm]; rfl
   have hb9':(Int.tmod r al != 0)=false:=by rw [htm]; exact hb9
   have HRR:=Y hrr;clear hm hrr;go_wp2_with fail
   refine O HK _ _ ?_;refine Yd (Q:=fun a w=>Code.wp Tryz.prog (xT Tryz.f8 6) _ a w) _ rfl ?_;exact O HN _ rfl rfl rfl rfl rfl (O H7).symm rfl rfl rfl rfl (by rw [← O HRR]; rfl)
  ·
   have hrr:r<ru:=by
    have hq:=O HR;rcases Int.lt_or_eq_of_le hr2 with h | h
    ·
     exact h
    ·
     exfalso
     rw [h] at hm;exact hm hq.2.2.1
   have hb9:(r % al != 0)=true:=by simp [hm]
   have hb9':(Int.tmod r al != 0)=true:=by rw [htm]; exact hb9
   have hw:IntKind.i64.wrap (r+1)=r+1:=Nl (by omega) (by omega);have hw2:wrap64 (r+1)=r+1:=Zcb (by omega) (by omega);go_wp2;go_roundw
   case rel=>exact⟨r+1,by first | rfl | go_num | (congr 1),by omega,by omega,by first | trivial | rfl⟩
   case measure=>simp [intOf]; omega
theorem xt6 {w V:World}{T:Zm}{C:Zk}{f:Int}{ws sc:List Int}{n st:Nat}{ob fb:Nat}{s:Nat→Value}{room:Int}(hob:V.heap[ob]?=some (.cells #[.int .i64 0,.slice none 0 0,.int .i64 0,.slice none 0 0,.int .i64 0,.int .i64 0] 41 (0,0)))(hfb:V.heap[fb]?=some (.cells #[.int .i64 0,.int .i64 0,.int .i64 0,.int .i64 0] 46 (0,0)))(ho1:w.heap.size≤ob)(hf1:w.heap.size≤fb)(hbw:Below w.heap.size w V)(hE:Lv T C f ws n st=0)(hno:(n:Int)<room→∃ M,Lc T C f ws sc n st=M∧M.kind=4∧M.vals=[]∧M.code=0∧M.tr=[]∧M.steps=0∧M.pk=0)(h5:s 5=.int .i64 (n:Int))(h14:s 14=.pointer (some ⟨ob,0,none⟩))(h15:s 15=.pointer (some ⟨fb,0,none⟩))(h17:s 17=.int .i64 room)(hnext:room≤n→∀(s':Nat→Value),s' 2=s 2→s' 3=s 3→s' 4=s 4→s' 5=s 5→s' 6=s 6→s' 7=s 7→s' 8=s 8→s' 14=s 14→s' 15=s 15→s' 16=s 16→s' 17=s 17→Code.wp Tryz.prog (xT Tryz.f8 7) (bodyPost Tryz.prog Tryz.f8 (Gc w T C f ws sc n st)) (Fz s') V) :
 Code.wp Tryz.prog (xT Tryz.f8 6) (bodyPost Tryz.prog Tryz.f8 (Gc w T C f ws sc n st)) (Fz s) V:=by
 have HN:=Y hnext;have HBAD:=Y (fun(hlt:(n:Int)<room) (s':Nat→Value) (Qc:Exit→Act→World→Prop) (g14:s' 14=.pointer (some ⟨ob,0,none⟩)) (g15:s' 15=.pointer (some ⟨fb,0,none⟩)) (hret:∀ a w',(bodyPost Tryz.prog Tryz.f8 (Gc w T C f ws sc n st)) .ret a w'→Qc .ret a w')=>Zzj (sc:=sc) hob hfb ho1 hf1 hbw (hno hlt) hE g14 g15 hret);rw [Gj,h5,h14,h15,h17];have H5:=Y h5;have H14:=Y h14;have H15:=Y h15;have H17:=Y h17;clear hnext hno hbw hob hfb hE h5 h14 h15 h17;conv=>arg 2; whnf
 refine wp_seq_k fun K hK=>?_;have HK:=Y hK;clear hK;refine wp_seq_k fun K2 hK2=>?_;have HK2:=Y hK2;clear hK2;by_cases hlt:(n:Int)<room
 ·
  have HLT:=Y hlt;have hb:decide ((n:Int)<room)=true:=decide_eq_true hlt;go_wp2_with fail
  refine O HK2 _ _ (wp_cond_true rfl ?_);refine Yd (Q:=fun a w=>Code.wp Tryz.prog (Ni (Nw (Sf (xT Tryz.f8 6)))) _ a w) _ rfl ?_;exact O HBAD (O HLT) _ _ rfl rfl (fun a w' h=>h)
 ·
  have HLT:=Y (show room≤n by omega);have hb:decide ((n:Int)<room)=false:=decide_eq_false hlt;go_wp2_with fail
  refine O HK2 _ _ (wp_cond_false rfl (wp_skip ?_));refine O HK _ _ ?_;refine Yd (Q:=fun a w=>Code.wp Tryz.prog (xT Tryz.f8 7) _ a w) _ rfl ?_;exact O HN (O HLT) _ rfl rfl rfl (O H5).symm rfl rfl rfl (O H14).symm (O H15).symm rfl (O H17).symm
end Go.Proofs.YtnlcfnjeagmemaaGreatDoor
