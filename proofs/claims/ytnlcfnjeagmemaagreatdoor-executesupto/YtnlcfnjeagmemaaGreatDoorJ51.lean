import Derived.Test.YtnlcfnjeagmemaaGreatDoorJ3
import Derived.Test.YtnlcfnjeagmemaaGreatDoorJ50
import Derived.Test.YtnlcfnjeagmemaaGreatDoorJ13
import Derived.ArgAppend
namespace Go.Proofs.YtnlcfnjeagmemaaGreatDoor
open Go.RowKit
set_option maxHeartbeats 4000000
set_option maxRecDepth 100000
theorem Zwk (w:World)(X0 X1 X2 X3:Obj):((((w.alloc X0).alloc X1).alloc X2).alloc X3).heap[w.heap.size]?=some X0∧((((w.alloc X0).alloc X1).alloc X2).alloc X3).heap[w.heap.size+1]?=some X1∧((((w.alloc X0).alloc X1).alloc X2).alloc X3).heap[w.heap.size+1+1]?=some X2∧((((w.alloc X0).alloc X1).alloc X2).alloc X3).heap[w.heap.size+1+1+1]?=some X3∧((((w.alloc X0).alloc X1).alloc X2).alloc X3).heap.size=w.heap.size+1+1+1+1:=by
 obtain⟨r0,b0,s0⟩:=Zs w X0;obtain⟨r1,b1,s1⟩:=Zs (w.alloc X0) X1;obtain⟨r2,b2,s2⟩:=Zs ((w.alloc X0).alloc X1) X2;obtain⟨r3,b3,s3⟩:=Zs (((w.alloc X0).alloc X1).alloc X2) X3;rw [s0] at r1;rw [s1,s0] at r2;rw [s2,s1,s0] at r3;exact⟨(b3.block _ (by omega)).trans ((b2.block _ (by omega)).trans ((b1.block _ (by omega)).trans r0)),(b3.block _ (by omega)).trans ((b2.block _ (by omega)).trans r1),(b3.block _ (by omega)).trans r2,r3,by omega⟩
theorem Zfy {T:Zm}{C:Zk}{f:Int}{ws:List Int}{n st:Int}(hT:Ow T=true)(h:Lv T C f ws n st=0):C.sigs.length=C.funcs.length∧C.sigs.all Xy=true∧C.externs.all Xy=true∧(0≤f∧f<(C.funcs.length:Int))∧(0≤n∧n≤65536∧n % 32=0)∧(0≤st∧st≤4194304)∧ws.length=Yl (C.sigs.getD f.toNat ([],0)).1:=by
 refine Classical.byContradiction fun hc=>?_;have:=Zdg hT hc;rw [h] at this;cases this
theorem Lj.up {w:World}{b b':Nat}{v:Value}{ns:List Int}(h:Lj w b v ns)(hb:b≤b'):Lj w b' v ns:=by
 rcases h with h | ⟨g,so,cap,h1,h2,h3⟩
 ·
  exact .inl h
 ·
  exact .inr ⟨g,so,cap,h1,by omega,h3⟩
theorem Na.up {w:World}{A A':Nat}{v:Value}{ss:List (List Int×Int)}(h:Na w A v ss)(hA:A≤A'):Na w A' v ss:=by
 obtain⟨p,c,h1,h2,h3,h4⟩:=h;refine⟨p,c,h1,h2,h3,fun k hk=>?_⟩;obtain⟨g,so,lv,a1,a2,a3,a4,a5,a6⟩:=h4 k hk;exact⟨g,so,lv,a1,by omega,a3,a4,a5,a6.up hA⟩
theorem LV.up {w:World}{A A' n:Nat}{v:Value}{V:Nat→Value}(h:LV w A v n V)(hA:A≤A'):LV w A' v n V:=by
 obtain⟨p,c,h1,h2,h3,h4⟩:=h;refine⟨p,c,h1,h2,h3,fun k hk=>?_⟩;obtain⟨g,so,a1,a2,a3⟩:=h4 k hk;exact⟨g,so,a1,by omega,a3⟩
theorem Gi.up {w:World}{A A':Nat}{v:Value}{fs:List (List (List Zt))}(h:Gi w A v fs)(hA:A≤A'):Gi w A' v fs:=by
 obtain⟨V,h1,h2⟩:=h;refine⟨V,h1.up hA,fun f hf=>?_⟩;obtain⟨U,h3,h4⟩:=h2 f hf;refine⟨U,h3.up hA,fun b hb=>?_⟩;obtain⟨p,c,a1,a2,a3,a4⟩:=h4 b hb;refine⟨p,c,a1,a2,a3,fun k hk=>?_⟩;obtain⟨g,so,b1,b2,b3⟩:=a4 k hk;exact⟨g,so,b1,by omega,b3⟩
theorem Lz.up {w:World}{A A':Nat}{v:Value}{ws:List Int}(h:Lz w A v ws)(hA:A≤A'):Lz w A' v ws:=by
 obtain⟨p,c,h1,h2,h3,h4⟩:=h;refine⟨p,c,h1,h2,h3,fun h0=>?_⟩;obtain⟨g,so,a1,a2,a3⟩:=h4 h0;exact⟨g,so,a1,by omega,a3⟩
theorem Yba (T:Zm)(C:Zk)(w:World)(A:Nat)(csp cfp cep:Option Addr)(csc cfc cec:Nat)(f:Int)(ap sp:Option Addr)(ac scc:Nat)(ws sc:List Int)(n st:Int)(h:ExI w A T C csp cfp cep csc cfc cec ap sp ac scc ws sc)(hlen:(Xl 0 C.funcs).length≤1099511627776)(hfl:C.funcs.length≤1099511627776) :
 Calls Tryz.prog 8 #[.agg #[.int .i64 T.r,.int .i64 T.sp,.int .i64 T.lk,.int .i64 T.t0,.int .i64 T.t1,.slice T.pa T.ag.length T.ca,.slice T.pr T.rs.length T.cr,.slice T.ps T.ss.length T.cs,.int .i64 T.al,.int .i64 T.sh,.int .i64 T.br,.bool T.pairs],.agg #[.slice csp C.sigs.length csc,.slice cfp C.funcs.length cfc,.slice cep C.externs.length cec],.int .i64 f,.slice ap ws.length ac,.slice sp sc.length scc,.int .i64 n,.int .i64 st] w (Gc w T C f ws sc n st):=by
 obtain⟨r0,r1,r2,r3,hZ⟩:=Zwk w (.cells #[.int .i64 T.r,.int .i64 T.sp,.int .i64 T.lk,.int .i64 T.t0,.int .i64 T.t1,.slice T.pa T.ag.length T.ca,.slice T.pr T.rs.length T.cr,.slice T.ps T.ss.length T.cs,.int .i64 T.al,.int .i64 T.sh,.int .i64 T.br,.bool T.pairs] 25 (0,0)) (.cells #[.slice csp C.sigs.length csc,.slice cfp C.funcs.length cfc,.slice cep C.externs.length cec] 29 (0,0)) (.cells #[.int .i64 0,.slice none 0 0,.int .i64 0,.slice none 0 0,.int .i64 0,.int .i64 0] 41 (0,0)) (.cells #[.int .i64 0,.int .i64 0,.int .i64 0,.int .i64 0] 46 (0,0));have hB:Below w.heap.size w ((((w.alloc (.cells #[.int .i64 T.r,.int .i64 T.sp,.int .i64 T.lk,.int .i64 T.t0,.int .i64 T.t1,.slice T.pa T.ag.length T.ca,.slice T.pr T.rs.length T.cr,.slice T.ps T.ss.length T.cs,.int .i64 T.al,.int .i64 T.sh,.int .i64 T.br,.bool T.pairs] 25 (0,0))).alloc (.cells #[.slice csp C.sigs.length csc,.slice cfp C.funcs.length cfc,.slice cep C.externs.length cec] 29 (0,0))).alloc (.cells #[.int .i64 0,.slice none 0 0,.int .i64 0,.slice none 0 0,.int .i64 0,.int .i64 0] 41 (0,0))).alloc (.cells #[.int .i64 0,.int .i64 0,.int .i64 0,.int .i64 0] 46 (0,0))):=Xt _ (Xt _ (Xt _ (Xt _ (Below.refl _ _))));have HN:=Y (fun(W:World) (s:Nat→Value) (hBW:Below w.heap.size w W) (q0:W.heap[w.heap.size]?=some (.cells #[.int .i64 T.r,.int .i64 T.sp,.int .i64 T.lk,.int .i64 T.t0,.int .i64 T.t1,.slice T.pa T.ag.length T.ca,.slice T.pr T.rs.length T.cr,.slice T.ps T.ss.length T.cs,.int .i64 T.al,.int .i64 T.sh,.int .i64 T.br,.bool T.pairs] 25 (0,0))) (q1:W.heap[w.heap.size+1]?=some (.cells #[.slice csp C.sigs.length csc,.slice cfp C.funcs.length cfc,.slice cep C.externs.length cec] 29 (0,0))) (q2:W.heap[w.heap.size+1+1]?=some (.cells #[.int .i64 0,.slice none 0 0,.int .i64 0,.slice none 0 0,.int .i64 0,.int .i64 0] 41 (0,0))) (q3:W.heap[w.heap.size+1+1+1]?=some (.cells #[.int .i64 0,.int .i64 0,.int .i64 0,.int .i64 0] 46 (0,0))) (g2:s 2=.int .i64 f) (g3:s 3=.slice ap ws.length ac) (g4:s 4=.slice sp sc.length scc) (g5:s 5=.int .i64 n) (g6:s 6=.int .i64 st) (g7:s 7=.pointer (some ⟨w.heap.size,0,none⟩)) (g8:s 8=.pointer (some ⟨w.heap.size+1,0,none⟩)) (g14:s 14=.pointer (some ⟨w.heap.size+1+1,0,none⟩)) (g15:s 15=.pointer (some ⟨w.heap.size+1+1+1,0,none⟩))=>show Code.wp Tryz.prog (xT Tryz.f8 1) (bodyPost Tryz.prog Tryz.f8 (Gc w T C f ws sc n st)) (Fz s) W from by
  refine xt1 q2 q3 (by omega) (by omega) hBW q0 h.tT g7 g14 g15 (fun htT V1 s1 hb1 a2 a3 a4 a5 a6 a7 a8 a14 a15=>?_);have hI1:=h.below (Zb hBW hb1 hBW.size);have hz1:=hb1.size;have hzW:=hBW.size;refine xt2 (A:=A) ((hb1.block _ (Zc q2)).trans q2) ((hb1.block _ (Zc q3)).trans q3) (by omega) (by omega) (Zb hBW hb1 hBW.size) htT ((hb1.block _ (Zc q1)).trans q1) hI1.tS hI1.tE_ hI1.tA hfl (a2.trans g2) (a3.trans g3) (a5.trans g5) (a6.trans g6) (a8.trans g8) (a14.trans g14) (a15.trans g15) (fun hE V2 s2 hb2 b2 b3 b5 b6 b7 b8 b14 b15 b4=>?_);obtain⟨c1,c2,c3,c4,c5,c6,c7⟩:=Zfy htT hE;obtain⟨fN,hf⟩:∃ k:Nat,f=k:=⟨f.toNat,by omega⟩;obtain⟨nN,hnN⟩:∃ k:Nat,n=k:=⟨n.toNat,by omega⟩;obtain⟨stN,hstN⟩:∃ k:Nat,st=k:=⟨st.toNat,by omega⟩;subst hf hnN hstN;have hb12:=Zb hb1 hb2 hb1.size;have hbW2:=Zb hBW hb12 hBW.size;have hI2:=h.below hbW2;have hTK:=Zoi htT;have htb:=tbX htT;have hff:fN<C.funcs.length:=by omega
  have hfs:fN<C.sigs.length:=by omega
  obtain⟨g,so,lv,hp,hgA,d0,d1,hli,hrsb⟩:=hI2.tS.cells fN hfs;have hok:=Ik (List.all_eq_true.1 c2 (C.sigs.getD fN ([],0)) (by rw [List.getD_eq_getElem?_getD,List.getElem?_eq_getElem hfs]; exact List.getElem_mem hfs));rw [Int.toNat_natCast] at c7;obtain⟨sgn,hsgn⟩:∃ x,x=C.sigs.getD fN ([],0):=⟨_,rfl⟩;rw [← hsgn] at d1 hli hrsb hok c7;obtain⟨ps,nr⟩:=sgn;simp only at d1 hli hrsb c7;obtain⟨lp,lc,hlv⟩:=hli.shape;subst hlv hp;have hly:=Of hTK hok;have rt2:=(hb12.block _ (Zc q0)).trans q0;have rc2:=(hb12.block _ (Zc q1)).trans q1;have ro2:=(hb12.block _ (Zc q2)).trans q2;have rf2:=(hb12.block _ (Zc q3)).trans q3;refine xt3 (csn:=C.sigs.length) (csc:=csc) (ps:=ps) (nr:=nr) (fun c a d v w' h=>by cases d <;> exact h) hI2.tT htb.1 htb.2 hTK.sh.1 (by have:=hTK.sh.2.1; omega) hok rt2 ((cR rc2 0)) hfs d0 d1 hli (b2.trans (a2.trans g2)) (b7.trans (a7.trans g7)) (b8.trans (a8.trans g8)) (fun V3 s3 lb lap lac lrp lrc pvs hb3 hlay hrl hlb c2' c3' c4' c5' c6' c7' c8 c14 c15 c16=>?_);have hb23:=Zb hbW2 hb3 hbW2.size;have hz3:=hb3.size;have hI3:=h.below hb23;have rt3:=(hb3.block _ (Zc rt2)).trans rt2;have rc3:=(hb3.block _ (Zc rc2)).trans rc2;have ro3:=(hb3.block _ (Zc ro2)).trans ro2;have rf3:=(hb3.block _ (Zc rf2)).trans rf2;refine xt4 hrl hly.s0 hly.s1 hly.c0 (by have:=hly.c1; omega) c16 (fun s4 d2 d3 d4 d5 d6 d7 d8 d14 d15 d16 d17=>?_);refine xt5 (T:=T) hTK.al rt3 (by have:=hly.s0; have:=hly.c0; omega) (by have:=hly.s1; have:=hly.c1; omega) (d7.trans (c7'.trans (b7.trans (a7.trans g7)))) d17 (fun s5 e2 e3 e4 e5 e6 e7 e8 e14 e15 e16 e17=>?_)
  have hrup:(Zr T (ps,nr)).size+(Zr T (ps,nr)).copies≤Ml ((Zr T (ps,nr)).size+(Zr T (ps,nr)).copies) T.al∧Ml ((Zr T (ps,nr)).size+(Zr T (ps,nr)).copies) T.al≤3000:=by
   have h1:=hly.s0;have h2:=hly.s1;have h3:=hly.c0;have h4:=hly.c1;unfold Ml;rcases hTK.al with hh | hh | hh <;> rw [hh] <;> omega
  have hr0:0≤Ml ((Zr T (ps,nr)).size+(Zr T (ps,nr)).copies) T.al:=by have:=hly.s0; have:=hly.c0; omega
  obtain⟨room,hroom⟩:∃ x,Ml ((Zr T (ps,nr)).size+(Zr T (ps,nr)).copies) T.al=x:=⟨_,rfl⟩;rw [hroom] at hrup hr0 e17;have k5:=e5.trans (d5.trans (c5'.trans (b5.trans (a5.trans g5))));have k14:=e14.trans (d14.trans (c14.trans (b14.trans (a14.trans g14))));have k15:=e15.trans (d15.trans (c15.trans (b15.trans (a15.trans g15))));have how:Zr T (ps,nr)=Zr T (C.sigs.getD fN ([],0)):=by rw [← hsgn]
  refine xt6 (sc:=sc) ro3 rf3 (by omega) (by omega) hb23 hE (fun hlt=>?_) k5 k14 k15 e17 (fun hle s6 m2 m3 m4 m5 m6 m7 m8 m14 m15 m16 m17=>?_)
  ·
   refine⟨_,rfl,?_⟩;have e:Lc T C (fN:Int) ws sc (nN:Int) (stN:Int)=(Mk nN sc).endK 4 []:=by
    unfold Lc;rw [if_pos hE];unfold exG;rw [Int.toNat_natCast,Int.toNat_natCast,Int.toNat_natCast,← how,Zsp hlt (by omega) hroom,if_neg (by simp)]
   rw [e];exact⟨rfl,rfl,rfl,rfl,rfl,rfl⟩
  ·
   have hA3:A≤V3.heap.size:=hI3.tA;exact Zwj (ps:=ps) (nr:=nr.toNat) (fN:=fN) (own:=Zr T (ps,nr)) (csn:=C.sigs.length) (csc:=csc) (sg:=g) (so:=so) (pp:=lp) (pc:=lc) ⟨rt3,ro3,rf3,hrl,hlay,hI3.tT,by omega,by omega,hb23⟩ rc3 hTK (by omega) hly (by rw [hly.res]; have:=hok.r4; simp only at this; omega) htb.1 htb.2 (hI3.tE_.up hA3) (fun s hs=>Ik (List.all_eq_true.1 c3 s hs)) hfl hI3.tbl hlen (hI3.tC.up hA3) (by omega) ⟨hr0,hle⟩ hrup.1 hroom (by have:=hly.c1; omega) (hI3.tws.up hA3) h.tu c7 hly.p8 hok.l (hI3.tsc.up hA3) h.tus rfl hfs hff ((World.cell?_of_block (hb3.block g (by have:=hI2.tA; omega))).trans d0) (hli.below hb3) how (by rw [← hsgn]) hE (m2.trans (e2.trans (d2.trans (c2'.trans (b2.trans (a2.trans g2)))))) (m3.trans (e3.trans (d3.trans (c3'.trans (b3.trans (a3.trans g3)))))) (m4.trans (e4.trans (d4.trans (c4'.trans (b4.trans (a4.trans g4)))))) (m5.trans k5) (m6.trans (e6.trans (d6.trans (c6'.trans (b6.trans (a6.trans g6)))))) (m7.trans (e7.trans (d7.trans (c7'.trans (b7.trans (a7.trans g7)))))) (m8.trans (e8.trans (d8.trans (c8.trans (b8.trans (a8.trans g8)))))) (m14.trans k14) (m15.trans k15) (m16.trans (e16.trans (d16.trans c16))) (m17.trans e17))
 have HR0:=Y r0;have HR1:=Y r1;have HR2:=Y r2;have HR3:=Y r3;have HB:=Y hB;clear r0 r1 r2 r3 hZ hB h;go_enter Tryz.func8,Tryz.ntmps8
 refine wp_seq_k fun K hK=>?_;have HK:=Y hK;clear hK;go_wp2_with fail
 generalize World.alloc (World.alloc (World.alloc (World.alloc w _) _) _) _=W at HR0 HR1 HR2 HR3 HB ⊢;refine O HK _ _ ?_;refine Yd (Q:=fun a w=>Code.wp Tryz.prog (xT Tryz.f8 1) _ a w) _ rfl ?_;exact O HN _ _ (O HB) (O HR0) (O HR1) (O HR2) (O HR3) rfl rfl rfl rfl rfl rfl rfl rfl rfl
def Vb (m m':Zf):Prop:=m'.vals=m.vals∨m'.vals=[]
theorem Vb.rf (m:Zf):Vb m m:=.inl rfl
theorem Vb.tn {a b c:Zf}(h:Vb a b)(k:Vb b c):Vb a c:=by
 unfold Vb at *;rcases k with k | k
 ·
  rw [k]; exact h
 ·
  exact .inr k
theorem Vb.le {a b:Zf}{n:Nat}(h:Vb a b)(k:a.vals.length≤n):b.vals.length≤n:=by
 rcases h with h | h
 ·
  rw [h]; exact k
 ·
  rw [h]; exact Nat.zero_le _
theorem Sn (m:Zf)(c:Int):Vb m (m.fault c):=(by first | exact .inl rfl | exact .inr rfl)
theorem Mw (T:Zm)(m:Zf)(v:Int):Vb m (m.setSP T v).1:=by
 unfold Zf.setSP;repeat' split
 all_goals exact(by first | exact .inl rfl | exact .inr rfl)
theorem Oj (T:Zm)(m:Zf)(r:Nat)(v:Int):Vb m (m.setR T r v).1:=by
 unfold Zf.setR;split
 ·
  exact Mw T m v
 ·
  exact(by first | exact .inl rfl | exact .inr rfl)
theorem Zgv (m:Zf)(a k:Int):Vb m (m.reach a k).1:=by
 unfold Zf.reach;repeat' split
 all_goals exact(by first | exact .inl rfl | exact .inr rfl)
theorem De (m:Zf)(a k:Int):Vb m (m.load a k).1:=by
 unfold Zf.load;split
 ·
  exact Vb.rf m
 ·
  exact Zgv m a k
theorem Oa (m:Zf)(a k v:Int):Vb m (m.store a k v).1:=by
 unfold Zf.store;split
 ·
  exact(by first | exact .inl rfl | exact .inr rfl)
 ·
  exact Zgv m a k
theorem Zdo (T:Zm)(m:Zf)(p:Int×Int):Vb m (m.read T p).1:=by
 unfold Zf.read;split
 ·
  exact De _ _ _
 ·
  exact Vb.rf m
theorem Zqo (T:Zm)(m:Zf)(p:Int×Int)(v:Int):Vb m (m.write T p v).1:=by
 unfold Zf.write;split
 ·
  exact Oa _ _ _ _
 ·
  exact Oj _ _ _ _
theorem Zul (T:Zm)(m:Zf):Vb m (m.aligned T).1:=by
 unfold Zf.aligned;split
 ·
  exact Vb.rf m
 ·
  exact Sn m 3
theorem Zlh (T:Zm)(m:Zf)(n:Int):Vb m (m.putN T n).1:=by
 unfold Zf.putN;split
 ·
  split
  ·
   exact(Mw T m _).tn (Oa _ _ _ _)
  ·
   exact Mw T m _
 ·
  exact Oj _ _ _ _
theorem Zqp (T:Zm)(m:Zf):Vb m (m.takeN T).1:=by
 unfold Zf.takeN;split
 ·
  split
  ·
   exact(De m _ _).tn (Mw T _ _)
  ·
   exact De m _ _
 ·
  exact Vb.rf m
theorem Zli (T:Zm)(m:Zf)(x:Xm)(n:Nat):Vb m (m.wordOf T x n).1:=by
 unfold Zf.wordOf;split
 ·
  exact Zdo _ _ _
 ·
  split
  ·
   exact(Zdo T m _).tn (De _ _ _)
  ·
   exact Zdo _ _ _
theorem Zgw (T:Zm):∀(l:List (Xm×Nat)) (m:Zf) (acc:List Int),Vb m (Zo T m l acc).1
 | [],m,acc=>Vb.rf m
 | x :: r,m,acc=>by
  rw [Zo];split
  ·
   exact(Zli T m _ _).tn (Zgw T r _ _)
  ·
   exact Zli T m _ _
theorem Zlj (T:Zm)(base:Int):∀(n k:Nat) (m:Zf),Vb m (Ys T base n k m).1
 | 0,k,m=>Vb.rf m
 | n+1,k,m=>by
  rw [Ys];split
  ·
   exact(Oa m _ _ _).tn (Zlj T base n (k+1) _)
  ·
   exact Oa m _ _ _
theorem Cv (T:Zm):∀(r:List (Int×Int)) (m:Zf) (sc:List Int),Vb m (Xa T m r sc)
 | [],m,sc=>Vb.rf m
 | p :: r,m,sc=>by
  rw [Xa];exact(Zqo T m _ _).tn (Cv T r _ _)
theorem Zgx (T:Zm)(m:Zf)(r a k:Int):Vb m (Jb T m r a k):=by
 unfold Jb;split
 ·
  exact(De m _ _).tn (Oj _ _ _ _)
 ·
  exact De m _ _
theorem Zqq (T:Zm)(m:Zf)(z:Int):Vb m (Zz T m z).1:=by
 unfold Zz;exact(show Vb m { m with rg:=Lk T m.rg (IntKind.u64.wrap (65536*m.tr.length)) } from(by first | exact .inl rfl | exact .inr rfl)).tn (Zlj T _ _ _ _)
theorem Zcc (a:Int):∀(ws:List Int) (m:Zf) (k:Nat),Vb m (Yq a m k ws)
 | [],m,k=>Vb.rf m
 | v :: r,m,k=>by
  rw [Yq];exact(Oa m _ _ _).tn (Zcc a r _ _)
theorem Zna (T:Zm)(size:Int)(m:Zf)(x:Xm)(ws:List Int):Vb m (Xb T size m x ws):=by
 unfold Xb;split
 ·
  exact(Zcc _ _ _ _).tn (Cv T _ _ _)
 ·
  exact Cv T _ _ _
theorem Zao (T:Zm)(size:Int):∀(xs:List Xm) (m:Zf) (ps ws:List Int),Vb m (Zu T size m xs ps ws)
 | [],m,ps,ws=>Vb.rf m
 | x :: r,m,ps,ws=>by
  rw [Zu];exact(Zna T size m _ _).tn (Zao T size r _ _ _)
theorem Ztf (T:Zm)(own:Yc)(ps ws:List Int)(m:Zf):Vb m (Gf T own ps ws m).1:=by
 unfold Gf;split
 ·
  exact(Mw T m _).tn (Zao T _ _ _ _ _)
 ·
  exact Mw T m _
theorem Zgy (m:Zf)(F:Nat)(f:Int):Vb m (m.enter F f).1:=by
 unfold Zf.enter;split
 ·
  exact .inl rfl
 ·
  exact Sn m 1
theorem Zlk (T:Zm)(F:Nat)(m:Zf)(f k:Int):Vb m (m.call T F f k).1:=by
 unfold Zf.call;split
 ·
  split
  ·
   exact(Zlh T m k).tn (Zgy _ _ _)
  ·
   exact Zlh T m k
 ·
  exact Zul T m
theorem Zgz (m:Zf)(F:Nat)(f:Int):(m.enter F f).1.tr=m.tr:=by
 unfold Zf.enter;split <;> rfl
theorem Zdp (T:Zm)(F:Nat)(m:Zf)(f k:Int):(m.call T F f k).1.tr=m.tr:=by
 unfold Zf.call;split
 ·
  split
  ·
   exact(Zgz _ _ _).trans (Mn T m k).tr
  ·
   exact(Mn T m k).tr
 ·
  exact(Sh T m).tr
theorem Zcd (T:Zm):∀(l:List (Xm×Nat)) (m m':Zf) (acc ws:List Int),Zo T m l acc=(m',some ws)→ws.length=acc.length+l.length
 | [],m,m',acc,ws,h=>by
  rw [Zo] at h;injection h with _ h;injection h with h;subst h;rfl
 | x :: r,m,m',acc,ws,h=>by
  rw [Zo] at h;split at h
  ·
   have:=Zcd T r _ m' _ ws h;simp at this ⊢;omega
  ·
   injection h with _ h;cases h
theorem Zil {α β:Type}(g:α→List β)(b:Nat):∀(l:List α),(∀ x ∈ l,(g x).length≤b)→(l.flatMap g).length≤l.length*b
 | [],_=>by simp
 | x :: l,h=>by
  have h1:=Zil g b l (fun y hy=>h y (by simp [hy]));have h2:=h x (by simp);simp only [List.flatMap_cons,List.length_append,List.length_cons,Nat.succ_mul];omega
theorem Ztg {T:Zm}{s:List Int×Int}(hT:TK T)(hs:Mt s):(Ng (Zr T s).args s.1).length≤64:=by
 have hk:=Of hT hs;have h1:=Zil (fun k=>(List.range (max (s.1.getD k 0) 1).toNat).map fun n=>((Zr T s).args.getD k Xs,n)) 8 (List.range (Zr T s).args.length) (fun k hk2=>by
  have:=hk.p8 k (by have:=List.mem_range.1 hk2; rw [hk.args] at this; exact this);simp only [List.length_map,List.length_range];omega)
 have h2:(Ng (Zr T s).args s.1).length≤(List.range (Zr T s).args.length).length*8:=h1;rw [List.length_range,hk.args] at h2;have:=hs.l;omega
def Tb (m m':Zf):Prop:=m'.tr=m.tr∨∃ e:Int×List Int,m'.tr=m.tr++[e]∧e.2.length≤64
structure Bw (m m':Zf):Prop where
 v:m.vals.length≤4→m'.vals.length≤4
 t:Tb m m'
section
variable {T:Zm} {C:Zk} {own:Yc} {was:Nat→Int}
theorem Ob {m m':Zf}(h:Sm m m')(k:Vb m m'):Bw m m':=⟨k.le,.inl h.tr⟩
theorem Zwu (hT:TK T)(hx:∀ s ∈ C.externs,Mt s)(m:Zf)(f:Int):Bw m (Xk T C m f):=by
 unfold Xk;split
 ·
  exact Ob (Sh T m) (Zul T m)
 ·
  split
  ·
   rename_i hf;have hl:=Ztg hT (hx (C.externs.getD f.toNat ([],0)) (by
    rw [List.getD_eq_getElem?_getD,List.getElem?_eq_getElem (by omega)];exact List.getElem_mem _))
   generalize Ng _ _=L at hl ⊢;have hs:=Mv T L m [];have hv:=Zgw T L m [];split
   ·
    rename_i m' he;rw [he] at hs hv;exact Ob hs hv
   ·
    rename_i m' ws he;rw [he] at hs hv;have hw:=Zcd T L m m' [] ws he;simp only [List.length_nil,Nat.zero_add] at hw;generalize (Zr T _).size=z;generalize (Zr T _).res=rs;have h1:Bw m { m' with tr:=m'.tr++[(f,ws)] }:=⟨fun h=>hv.le h,.inr ⟨(f,ws),by show m'.tr++_=_; rw [hs.tr],by show ws.length≤64; omega⟩⟩;generalize ({ m' with tr:=m'.tr++[(f,ws)] }:Zf)=m2 at h1 ⊢;have h2:Bw m (Zz T m2 z).1:=⟨fun h=>(Zqq T m2 z).le (h1.v h),by unfold Tb; rw [(Md T m2 z).tr]; exact h1.t⟩;split
    ·
     generalize (Zz T m2 z).1=m3 at h2 ⊢;unfold Xw;refine⟨fun h=>(Cv T rs _ m3.sc).le (h2.v h),?_⟩;unfold Tb;rw [(Nk T rs _ m3.sc).tr];exact h2.t
    ·
     exact h2
  ·
   exact Ob (Ga m 1) (Sn m 1)
theorem Zwv (ho:own.res.length≤4)(m:Zf):Bw m (Mz T C own was m):=by
 have hs:=Mu T m;have hv:=Zqp T m;unfold Mz;split
 ·
  rename_i m' he;rw [he] at hs hv;exact Ob hs hv
 ·
  rename_i m' k he;rw [he] at hs hv;split
  ·
   refine⟨fun h=>?_,.inl ((Kf T own was m').tr.trans hs.tr)⟩;unfold Yw;split
   ·
    show(Ya T m' own.res []).2.length≤4;rw [Uw];simpa using ho
   ·
    exact Nat.zero_le _
  ·
   split
   ·
    exact Ob (hs.tn (Ga m' 4)) (hv.tn (Sn m' 4))
   ·
    exact⟨fun h=>hv.le h,.inl hs.tr⟩
theorem Zth (hT:TK T)(hx:∀ s ∈ C.externs,Mt s)(ho:own.res.length≤4)(m:Zf)(i:Zt):Bw m (Xo T C own was m i):=by
 unfold Xo;refine iteInduction (motive:=Bw m) (fun _=>Ob (Jc _ _ _ _) (Oj _ _ _ _)) fun _=>?_;refine iteInduction (motive:=Bw m) (fun _=>Ob (Jc _ _ _ _) (Oj _ _ _ _)) fun _=>?_;refine iteInduction (motive:=Bw m) (fun _=>Ob (Jc _ _ _ _) (Oj _ _ _ _)) fun _=>?_;refine iteInduction (motive:=Bw m) (fun _=>Ob (Un _ _ _ _ _) (Zgx _ _ _ _ _)) fun _=>?_;refine iteInduction (motive:=Bw m) (fun _=>Ob (Xx _ _ _ _) (Oa _ _ _ _)) fun _=>?_;refine iteInduction (motive:=Bw m) (fun _=>Ob (Un _ _ _ _ _) (Zgx _ _ _ _ _)) fun _=>?_;refine iteInduction (motive:=Bw m) (fun _=>Ob (Jc _ _ _ _) (Oj _ _ _ _)) fun _=>?_;refine iteInduction (motive:=Bw m) (fun _=>Ob (Gb _ _ _) (Mw _ _ _)) fun _=>?_;refine iteInduction (motive:=Bw m) (fun _=>⟨(Zlk _ _ _ _ _).le,.inl (Zdp _ _ _ _ _)⟩) fun _=>?_;refine iteInduction (motive:=Bw m) (fun _=>Zwu hT hx m _) fun _=>?_;refine iteInduction (motive:=Bw m) (fun _=>⟨fun h=>h,.inl rfl⟩) fun _=>?_;refine iteInduction (motive:=Bw m) (fun _=>⟨fun h=>h,.inl rfl⟩) fun _=>?_;refine iteInduction (motive:=Bw m) (fun _=>Zwv ho m) fun _=>?_;exact iteInduction (motive:=Bw m) (fun _=>⟨(Zgy _ _ _).le,.inl (Zgz _ _ _)⟩) fun _=>⟨fun _=>(by show 1≤4; decide),.inl rfl⟩
theorem Zti (hT:TK T)(hx:∀ s ∈ C.externs,Mt s)(ho:own.res.length≤4)(m:Zf):Bw m (Yb T C own was { m with steps:=m.steps+1 }):=by
 unfold Yb;split
 ·
  have h:=Zth (was:=was) hT hx ho { ({ m with steps:=m.steps+1 }:Zf) with at_:=m.at_+1 } (Zv C { m with steps:=m.steps+1 });exact⟨h.v,h.t⟩
 ·
  exact⟨fun _=>Nat.zero_le _,.inl rfl⟩
structure BdM (n:Nat)(m:Zf):Prop where
 l:m.tr.length≤n
 e:∀ e ∈ m.tr,e.2.length≤64
 v:m.vals.length≤4
theorem Bw.bd {n:Nat}{m m':Zf}(h:Bw m m')(k:BdM n m):BdM (n+1) m':=by
 rcases h.t with h1 | ⟨e,h1,h2⟩
 ·
  exact⟨by rw [h1]; have:=k.l; omega,by rw [h1]; exact k.e,h.v k.v⟩
 ·
  refine⟨by rw [h1]; have:=k.l; simp; omega,fun x hx=>?_,h.v k.v⟩;rw [h1] at hx;rcases List.mem_append.1 hx with hx | hx
  ·
   exact k.e x hx
  ·
   rw [List.mem_singleton.1 hx]; exact h2
theorem Zum (hT:TK T)(hx:∀ s ∈ C.externs,Mt s)(ho:own.res.length≤4):∀(n q:Nat) (m:Zf),BdM q m→BdM (q+n) (On T C own was n m)
 | 0,q,m,h=>by
  rw [On];split
  ·
   exact⟨h.l,h.e,Nat.zero_le _⟩
  ·
   exact h
 | n+1,q,m,h=>by
  rw [On];split
  ·
   have:=Zum hT hx ho n (q+1) _ ((Zti (was:=was) hT hx ho m).bd h);rwa [show q+1+n=q+(n+1) by omega] at this
  ·
   exact⟨by have:=h.l; omega,h.e,h.v⟩
end
theorem Zww (T:Zm)(C:Zk)(f:Int)(ws sc:List Int)(n st:Int):(Lc T C f ws sc n st).vals.length≤4∧(Lc T C f ws sc n st).tr.length≤4194304∧∀ k,k<(Lc T C f ws sc n st).tr.length→((Lc T C f ws sc n st).tr.getD k (0,[])).2.length≤64:=by
 have fin:∀ m:Zf,BdM 4194304 m→m.vals.length≤4∧m.tr.length≤4194304∧∀ k,k<m.tr.length→(m.tr.getD k (0,[])).2.length≤64:=fun m h=>⟨h.v,h.l,fun k hk=>by
  rw [List.getD_eq_getElem?_getD,List.getElem?_eq_getElem hk];exact h.e _ (List.getElem_mem hk)⟩
 refine fin _ ?_;unfold Lc;split
 ·
  rename_i h0;have hT:Ow T=true:=by
   cases h:Ow T with
   | true=>rfl
   | false =>
    unfold Lv at h0;rw [if_pos h] at h0;omega
  obtain⟨c1,c2,c3,c4,-,hst,-⟩:=Zfy hT h0;have hT:TK T:=Zoi hT;have hx:∀ s ∈ C.externs,Mt s:=fun s hs=>Ik (List.all_eq_true.1 c3 s hs);have hf:f.toNat<C.sigs.length:=by omega
  have hso:Mt (C.sigs.getD f.toNat ([],0)):=Ik (List.all_eq_true.1 c2 _ (by rw [List.getD_eq_getElem?_getD,List.getElem?_eq_getElem hf]; exact List.getElem_mem _));have ho:(Zr T (C.sigs.getD f.toNat ([],0))).res.length≤4:=by
   rw [(Of hT hso).res];have:=hso.r4;omega
  unfold exG;have hl:BdM 0 (Gf T (Zr T (C.sigs.getD f.toNat ([],0))) (C.sigs.getD f.toNat ([],0)).1 ws (Mk n.toNat sc)).1:=by
   have ht:=(Zji T (Zr T (C.sigs.getD f.toNat ([],0))) (C.sigs.getD f.toNat ([],0)).1 ws (Mk n.toNat sc)).tr;have hv:=(Ztf T (Zr T (C.sigs.getD f.toNat ([],0))) (C.sigs.getD f.toNat ([],0)).1 ws (Mk n.toNat sc)).le (Nat.zero_le 4);exact⟨by rw [ht]; exact Nat.le_refl 0,(by rw [ht]; intro e he; cases he),hv⟩
  have up:∀{q:Nat} {m:Zf},q≤4194304→BdM q m→BdM 4194304 m:=fun hq h=>⟨Nat.le_trans h.l hq,h.e,h.v⟩;generalize (Gf T (Zr T (C.sigs.getD f.toNat ([],0))) (C.sigs.getD f.toNat ([],0)).1 ws (Mk n.toNat sc))=y at hl ⊢;split
  ·
   have hcl:BdM 0 (y.1.call T C.funcs.length f 0).1:=⟨by rw [Zdp]; exact hl.l,by rw [Zdp]; exact hl.e,(Zlk _ _ _ _ _).le hl.v⟩;split
   ·
    exact up (by omega) (Zum hT hx ho st.toNat 0 _ hcl)
   ·
    exact up (by omega) hcl
  ·
   exact up (by omega) hl
 ·
  exact⟨Nat.zero_le _,fun e he=>(by cases he),Nat.zero_le _⟩
section
variable (T:Zm) (a b c:Nat)
theorem Zqr (s:List Int×Int):Zr (Gm T a b c) s=Zr T s:=rfl
theorem Zha:∀(l:List (Xm×Nat)) (m:Zf) (acc:List Int),Zo (Gm T a b c) m l acc=Zo T m l acc
 | [],_,_=>rfl
 | x :: r,m,acc=>by
  rw [Zo,Zo,show m.wordOf (Gm T a b c) x.1 x.2=m.wordOf T x.1 x.2 from rfl,Zha r]
theorem Zll (base:Int):∀(n k:Nat) (m:Zf),Ys (Gm T a b c) base n k m=Ys T base n k m
 | 0,_,_=>rfl
 | n+1,k,m=>by
  rw [Ys,Ys,show m.sp (Gm T a b c)=m.sp T from rfl,Zll base n]
theorem Zdq:∀(r:List (Int×Int)) (m:Zf) (sc:List Int),Xa (Gm T a b c) m r sc=Xa T m r sc
 | [],_,_=>rfl
 | p :: r,m,sc=>by
  rw [Xa,Xa,show m.write (Gm T a b c) p (sc.headD 0)=m.write T p (sc.headD 0) from rfl,Zdq r]
theorem Zhb:∀(r:List (Int×Int)) (m:Zf) (acc:List Int),Ya (Gm T a b c) m r acc=Ya T m r acc
 | [],_,_=>rfl
 | p :: r,m,acc=>by
  rw [Ya,Ya,show m.read (Gm T a b c) p=m.read T p from rfl,Zhb r]
theorem Zqs (m:Zf)(z:Int):Zz (Gm T a b c) m z=Zz T m z:=by
 unfold Zz;rw [show Lk (Gm T a b c)=Lk T from rfl,Zll]
theorem Zwx (m:Zf)(r:List (Int×Int)):Xw (Gm T a b c) m r=Xw T m r:=Zdq T a b c _ _ _
theorem Zwy (C:Zk)(m:Zf)(f:Int):Xk (Gm T a b c) C m f=Xk T C m f:=by
 unfold Xk;rw [Zqr,Zha,show m.aligned (Gm T a b c)=m.aligned T from rfl];simp only [Zqs,Zwx]
theorem Zwz (own:Yc)(was:Nat→Int)(m:Zf):Yw (Gm T a b c) own was m=Yw T own was m:=by
 unfold Yw;rw [show Ma (Gm T a b c) was m=Ma T was m from rfl,Zhb]
theorem Zxa (C:Zk)(own:Yc)(was:Nat→Int)(m:Zf):Mz (Gm T a b c) C own was m=Mz T C own was m:=by
 unfold Mz;rw [show m.takeN (Gm T a b c)=m.takeN T from rfl];simp only [Zwz]
theorem Ztj (C:Zk)(own:Yc)(was:Nat→Int)(m:Zf)(i:Zt):Xo (Gm T a b c) C own was m i=Xo T C own was m i:=by
 unfold Xo;rw [Zwy,Zxa];rfl
theorem Ztk (C:Zk)(own:Yc)(was:Nat→Int)(m:Zf):Yb (Gm T a b c) C own was m=Yb T C own was m:=by
 unfold Yb;rw [Ztj];rfl
theorem Zun (C:Zk)(own:Yc)(was:Nat→Int):∀(n:Nat) (m:Zf),On (Gm T a b c) C own was n m=On T C own was n m
 | 0,_=>rfl
 | n+1,m=>by
  rw [On,On,Ztk,Zun C own was n]
theorem Znb (size:Int)(m:Zf)(x:Xm)(ws:List Int):Xb (Gm T a b c) size m x ws=Xb T size m x ws:=by
 unfold Xb;simp only [Zdq];rfl
theorem Zap (size:Int):∀(xs:List Xm) (m:Zf) (ps ws:List Int),Zu (Gm T a b c) size m xs ps ws=Zu T size m xs ps ws
 | [],_,_,_=>rfl
 | x :: r,m,ps,ws=>by
  rw [Zu,Zu,Znb,Zap size r]
theorem Ztl (own:Yc)(ps ws:List Int)(m:Zf):Gf (Gm T a b c) own ps ws m=Gf T own ps ws m:=by
 unfold Gf;simp only [Zap];rfl
theorem Zqt (C:Zk)(f:Int)(ws:List Int)(n st:Int):Lv (Gm T a b c) C f ws n st=Lv T C f ws n st:=rfl
theorem Zxb (C:Zk)(f:Int)(ws sc:List Int)(n st:Int):Lc (Gm T a b c) C f ws sc n st=Lc T C f ws sc n st:=by
 unfold Lc exG;simp only [Zqt,Zqr,Ztl,Zun];rfl
end
set_option maxHeartbeats 4000000
set_option maxRecDepth 100000
theorem Tryz.infoU64s:(Tryz.prog.info? 62).map (·.size)=some 1:=by kernel_rfl
def cwC (ns:List Int):List Value:=ns.map (fun x=>Value.int .u64 x)++[.int .u64 77,.int .u64 78]
def cwV (g:Nat)(ns:List Int):Value:=.slice (some ⟨g,0,none⟩) ns.length (ns.length+2)
structure Cw (w:World)(g:Nat)(ns:List Int):Prop where
 row:w.heap[g]?=some (.cells (cwC ns).toArray 62 (0,0))
 lim:ns.length+2<4611686018427387904
theorem Ztm (ns:List Int)(i:Nat)(h:i<ns.length):(cwC ns).toArray[i]?=some (.int .u64 (ns.getD i 0)):=by
 simp [cwC,List.getElem?_append_left,h,List.getD]
theorem Zzm (ns:List Int):(cwC ns).toArray[ns.length]?=some (.int .u64 77):=by simp [cwC]
theorem Zzn (ns:List Int):(cwC ns).toArray[ns.length+1]?=some (.int .u64 78):=by
 have e:(cwC ns)[ns.length+1]?=some (.int .u64 78):=by
  unfold cwC;rw [List.getElem?_append_right (by simp)];simp
 simpa using e
theorem Cw.li {w:World}{g:Nat}{ns:List Int}(h:Cw w g ns):LiU w (.slice (some ⟨g,0,none⟩) ns.length (ns.length+2)) ns :=
 ⟨_,_,rfl,by omega,by have:=h.lim; omega,fun _=>⟨g,0,rfl,fun i hi=>by rw [Nat.zero_add]; exact(Zd h.row i).trans (Ztm ns i hi)⟩⟩
theorem Cw.keep {w w':World}{g:Nat}{ns:List Int}(h:Cw w g ns)(e:w'.heap[g]?=w.heap[g]?):Cw w' g ns:=⟨e.trans h.row,h.lim⟩
theorem Ybb (n:Nat)(hn:n*8≤140737488351232)(w:World):(Instr.makeSlice 33 (.int .i64 (n:Int)) (.int .i64 ((n:Int)+2))).run Tryz.prog w=.ok (.slice (some ⟨w.heap.size,0,none⟩) n (n+2)) (w.alloc (.cells (madeCells #[.int .u64 0] (n+2)) 62)):=by
 obtain⟨ti,hti,hz0,hz1,hz2⟩:=Yr Tryz.infoU64;have h:=run_make (P:=Tryz.prog) w 33 62 ti _ Tryz.underlying33 hti hz0 .i64 .i64 (n:Int) ((n:Int)+2) (by omega) (by omega) (by rw [hz2]; omega) (by omega);rw [hz1,Int.toNat_natCast,show((n:Int)+2).toNat=n+2 by omega,Nat.mul_one] at h;exact h
theorem Ku (ns:List Int)(p:Option Addr)(c:Nat)(w:World)(h:LiU w (.slice p ns.length c) ns)(hl:ns.length*8≤140737488351232) :
 Calls Tryz.prog 6 #[.slice p ns.length c] w fun e w'=>e=.returned (cwV w.heap.size ns)∧Cw w' w.heap.size ns∧Below w.heap.size w w':=by
 have hmk:=fun V=>Ybb ns.length hl V;have ha:=Zs w (.cells (madeCells #[.int .u64 0] (ns.length+2)) 62 (0,0));obtain⟨cur,hcur,hcl⟩:∃ cur:List Value,madeCells #[.int .u64 0] (ns.length+2)=cur.toArray∧cur.length=ns.length+2:=⟨(madeCells #[.int .u64 0] (ns.length+2)).toList,by simp,by rw [Array.length_toList,size_madeCells]⟩;rw [hcur] at ha;have HMK:=Y hcur;obtain⟨xs,hxs⟩:∃ xs:List Value,xs=ns.map (fun x=>Value.int .u64 x):=⟨_,rfl⟩;have hxl:xs.length=ns.length:=by rw [hxs]; simp
 have hx1:∀ v ∈ xs,v.oneCell'=true:=fun v hv=>by rw [hxs] at hv; obtain⟨x,-,rfl⟩:=List.mem_map.1 hv; rfl
 have HX1:=Y hx1;have HXS:=Y hxs;have HA:=Y ha;have HLI:=Y h;have HCL:=Y hcl;have HXL:=Y hxl;have hlt:ns.length<9223372036854775806:=by omega
 have hmin:Nat.min ns.length ns.length=ns.length:=Nat.min_self _;clear ha h hcur hx1 hxs hcl hxl;go_enter Tryz.func6,Tryz.ntmps6
 go_wp2_with (refine wpList_copy_splice rfl _ _ 33 33 rfl 62 Tryz.underlying33 (Tryz.infoU64s.trans rfl) _ _ _ _ _ _ rfl rfl w.heap.size 0 cur 62 ?k1 xs ?k2 ?k3 ?k4 (O HX1) w.heap.size w ?k5 (Nat.le_refl _) ?_)
 case k1=>rw [O HMK]; exact(O HA).1
 case k2=>rw [O HXL,hmin]
 case k3 =>
  intro h0;rw [O HXL] at h0;obtain⟨p',c',e,h2,h3,h4⟩:=O HLI;injection e with e1 e2 e3;obtain⟨sb,so,e4,hc⟩:=h4 h0;refine⟨⟨sb,so,none⟩,by rw [e1,e4],fun j v hj=>?_⟩;rw [O HXS] at hj;have hj2:j<ns.length:=by
   have:=(List.getElem?_eq_some_iff.1 hj).1;simpa using this
  have hv:v=.int .u64 (ns.getD j 0):=by
   simp [hj2] at hj;rw [← hj];simp [List.getD,hj2]
  subst hv;have hcj:=hc j hj2;have hb:=World.block_lt_of_cell? w _ hcj;simp only at hb;rw [O HMK];show World.cell? _ (Addr.add ⟨sb,so,none⟩ j)=_;rw [Go.WideShapes.add_plain];exact(World.cell?_of_block ((O HA).2.1.block sb hb)).trans hcj
 case k4=>rw [O HXL,O HCL]; omega
 case k5=>rw [O HMK]; exact(O HA).2.1
 intro w2 HG2 hB2;have hrow:=HG2.out;have hcell:∀ j,j<ns.length+2→∃ v,w2.cell? ⟨w.heap.size,j,none⟩=some v:=fun j hj=>by
  have hsz:(splice cur 0 xs).length=ns.length+2:=by rw [length_splice _ _ _ (by rw [O HXL,O HCL]; omega),O HCL]
  exact⟨_,(Zd hrow j).trans (List.getElem?_toArray.trans (List.getElem?_eq_getElem (by rw [hsz]; exact hj)))⟩
 obtain⟨v0,c0⟩:=hcell ns.length (by omega);obtain⟨v1,c1⟩:=hcell (ns.length+1) (by omega);have z0:=frozen_of_row _ _ ns.length _ _ hrow;have z1:=frozen_of_row _ _ (ns.length+1) _ _ hrow;have hr3:=heap_setCell_same _ _ (ns.length+1) _ _ (.int .u64 78) (heap_setCell_same _ _ ns.length _ _ (.int .u64 77) hrow);have e3:=Zno cur xs (.int .u64 77) (.int .u64 78) (by rw [O HCL,O HXL]);rw [O HXL] at e3;rw [e3] at hr3;have HR3:=Y hr3;have HB3:=Y hB2;have hw1:IntKind.i64.wrap ((ns.length:Int)+1)=((ns.length+1:Nat):Int):=by rw [IntKind.wrap_of_boundsK (by omega) (by omega)]; omega
 have hw2:IntKind.i64.wrap ((ns.length:Int)+2)=((ns.length+2:Nat):Int):=by rw [IntKind.wrap_of_boundsK (by omega) (by omega)]; omega
 clear hrow hcell HG2 hB2 hr3 e3 hmk;go_wp2;go_ret;have hb:=O HB3;refine⟨rfl,⟨?_,by omega⟩,⟨hb.os,hb.tape,hb.output,by have:=hb.size; simpa using this,fun q hq=>(heap_setCell_other _ _ _ _ (by show q≠w.heap.size; omega)).trans ((heap_setCell_other _ _ _ _ (by show q≠w.heap.size; omega)).trans (hb.block q hq))⟩⟩;unfold cwC;rw [← O HXS];exact O HR3
theorem So (ns:List Int)(g:Nat)(w:World)(h:Cw w g ns):Calls Tryz.prog 14 #[.slice (some ⟨g,0,none⟩) ns.length (ns.length+2)] w fun e w'=>e=.returned (.bool true)∧Below w.heap.size w w':=by
 have c0:=(Zd h.row ns.length).trans (Zzm ns);have c1:=(Zd h.row (ns.length+1)).trans (Zzn ns);have hlim:=h.lim;have hw1:IntKind.i64.wrap ((ns.length:Int)+1)=((ns.length+1:Nat):Int):=by rw [IntKind.wrap_of_boundsK (by omega) (by omega)]; omega
 have hw2:IntKind.i64.wrap ((ns.length:Int)+2)=((ns.length+2:Nat):Int):=by rw [IntKind.wrap_of_boundsK (by omega) (by omega)]; omega
 clear h;go_enter Tryz.func14,Tryz.ntmps14
 go_wp2;go_ret;exact⟨rfl,Below.refl _ _⟩
theorem Cx (ns:List Int)(va vb:Value)(w:World)(ha:LiU w va ns)(hb:LiU w vb ns):Calls Tryz.prog 13 #[va,vb] w fun x w'=>x=.returned (.bool true)∧Below w.heap.size w w':=by
 obtain⟨pa,ca,rfl,-,hn,hca⟩:=ha;obtain⟨pb,cb,rfl,-,-,hcb⟩:=hb;have hn':ns.length<9223372036854775808:=by omega
 have hne:((ns.length:Int) != (ns.length:Int))=false:=by simp
 have HA:=Y hca;have HB:=Y hcb;clear hca hcb hn;go_enter Tryz.func13,Tryz.ntmps13
 go_wp2;go_loopw [13] (fun j w'=>∃(k m:Nat),j=.int .i64 k∧k≤ns.length∧w'=w.drewN m) (fun j _=>ns.length-(intOf j).toNat)
 case atStart=>exact⟨0,0,rfl,by omega,rfl⟩
 case round =>
  obtain⟨k,m,rfl,hk,hw⟩:=hrel;subst hw;by_cases hlt:k<ns.length
  ·
   obtain⟨sa,oa,e1,hca⟩:=O HA (by omega);obtain⟨sb,ob,e2,hcb⟩:=O HB (by omega);subst e1 e2;have c1:=hca k hlt;have c2:=hcb k hlt;have hxx:(ns.getD k 0 != ns.getD k 0)=false:=by simp
   clear hca hcb;generalize ns.getD k 0=x at c1 c2 hxx;go_wp2;go_quiet (fail)
   go_wp2;go_roundw
   case rel=>exact⟨k+1,_,by go_num,by omega,rfl⟩
   case measure=>simp [intOf]; omega
  ·
   obtain rfl:k=ns.length:=by omega
   go_wp2;go_ret;exact⟨rfl,⟨rfl,rfl,rfl,Nat.le_refl _,fun _ _=>rfl⟩⟩
set_option maxHeartbeats 4000000
set_option maxRecDepth 100000
theorem Zqu {w:World}{base n cap g:Nat}{e:TypeId}{xs:List Value}(h:w.ownsRow base e 1 (.slice (some ⟨g,0,none⟩) n cap) n xs)(i:Nat)(u:Value):∃ xs',(w.setCell ⟨g,i,none⟩ u).ownsRow base e 1 (.slice (some ⟨g,0,none⟩) n cap) n xs':=by
 rcases h.2 with⟨e1,_⟩ | ⟨g',cap',cur,e1,h2,h3,h4,h5,h6,h7⟩
 ·
  cases e1
 ·
  injection e1 with e1 _ e2;injection e1 with e1;injection e1 with e1;subst e1; subst e2;refine⟨(cur.setIfInBounds i u).toList.take (n*1),?_,Or.inr ⟨g,cap,cur.setIfInBounds i u,rfl,h2,heap_setCell_same w g i cur e u h3,h4,h5,by simpa using h6,rfl⟩⟩;simp
  omega
theorem Ztn (w:World)(b j:Nat)(v:Value):w.grownBy (w.setCell ⟨b,j,none⟩ v) (some b):=⟨rfl,rfl,rfl,by simp,fun q _ h=>heap_setCell_other _ _ _ _ (fun e=>h (by rw [e]))⟩
theorem Zdr {w w':World}{row:Option Nat}(h:Below w.heap.size w w'):w.grownBy w' row:=⟨h.os,h.tape,h.output,h.size,fun k hk _=>h.block k hk⟩
theorem Kk {a c d:World}{row:Option Nat}(h:a.grownBy c row)(k:c.grownBy d row):a.grownBy d row :=
 ⟨k.os.trans h.os,k.tape.trans h.tape,k.output.trans h.output,Nat.le_trans h.size k.size,fun q h1 h2=>(k.block q (Nat.lt_of_lt_of_le h1 h.size) h2).trans (h.block q h1 h2)⟩
theorem Zbb (w:World){ops:Array Oper}{rest:List Oper}{o:Oper}{a:Act}{Q:Exit→Act→World→Prop}(hgd:o.guard=none)(s x:Operand)(t:TypeId)
 (ho:o.op=.call { callee:=.builtin .append,args:=#[s,x],argTypes:=#[t,t] }) (B:Nat) (i:TypeInfo) (ht:Tryz.prog.underlying t=some (.slice 62)) (hi:Tryz.prog.info? 62=some i) (hz:i.zero=some (.int .u64 0)) (hsize:i.size=1) (hby:i.bytes=8)
 (va:Option Addr) (vc n:Nat) (xs:List Value) (hs:a.eval s=.slice va n vc) (hown:w.ownsRow B 62 1 (.slice va n vc) n xs)
 (ad:Addr) (c:Nat) (news:List Value) (hx:a.eval x=.slice (some ad) 2 c) (hl:news.length=2) (hnews:∀ j u,news[j]?=some u→w.cell? (ad.add j)=some u) (h1:∀ u ∈ news,u.oneCell'=true) (hn:n≤10000000000000)
 (h:∀ v' w',(∃ ys,w'.ownsRow B 62 1 (.slice va n vc) n ys)→w.grownBy w' (Value.slice va n vc).ownBlock→wpList Tryz.prog ops Q rest (a.put o.dst v') w'):wpList Tryz.prog ops Q (o :: rest) a w:=by
 by_cases hr:n+2≤vc
 ·
  obtain⟨g,rfl⟩:∃ g,va=some ⟨g,0,none⟩:=by
   rcases hown.2 with⟨e,e0⟩ | ⟨g,cap,cur,e,-⟩
   ·
    injection e with _ _ e; omega
   ·
    injection e with e _ _; exact⟨g,e⟩
  refine wpList_append_fits w hgd s x t ho B 62 i 1 ht hi hsize g n vc xs hs hown ad 2 c news hx (by omega) hnews h1 hr fun w' h2 h3=>h _ w' ?_ h3;rcases h2.2 with⟨e,e0⟩ | ⟨g',cap',cur,e,q2,q3,q4,q5,q6,q7⟩
  ·
   omega
  ·
   injection e with e _ e3;injection e with e;injection e with e;subst e e3;refine⟨cur.toList.take (n*1),?_,Or.inr ⟨g,vc,cur,rfl,q2,q3,by omega,q5,q6,rfl⟩⟩;simp
   omega
 ·
  refine wpList_append_grows w hgd s x t ho 62 i _ 1 8 ht hi hz hsize hby rfl (by decide) va n vc xs hs ?_ hown.1 ?_ ad 2 c news hx (by omega) hnews h1 (by omega) (by unfold maxLen; omega) (by omega) fun v' w' _ h3=>h v' w' ⟨xs,hown.kept h3 (by cases (Value.slice va n vc).ownBlock <;> simp)⟩ ⟨h3.os,h3.tape,h3.output,h3.size,fun q h4 _=>h3.block q h4 (by simp)⟩
  ·
   rintro rfl;rcases hown.2 with⟨e,e0⟩ | ⟨g,cap,cur,e,-⟩
   ·
    injection e with _ e1 e2; exact⟨e0,e2⟩
   ·
    cases e
  ·
   rintro b rfl j u hj;rcases hown.2 with⟨e,e0⟩ | ⟨g,cap,cur,e,-⟩
   ·
    cases e
   ·
    injection e with e _ _;injection e with e;subst e;exact hown.cells (g:=g) rfl j u hj
theorem Sp (B n:Nat)(v:Value)(xs:List Value)(w:World)(h:w.ownsRow B 62 1 v n xs)(hn:n≤10000000000000):Calls Tryz.prog 36 #[v] w fun e w'=>(∃ x,e=.returned x)∧w.grownBy w' v.ownBlock∧∃ ys,w'.ownsRow B 62 1 v n ys:=by
 obtain⟨ti,hti,hz0,hz1,hz2⟩:=Yr Tryz.infoU64;have HO:=Ig h;obtain⟨va,vc,rfl⟩:∃ a c,v=.slice a n c:=by
  rcases h.2 with⟨e,e0⟩ | ⟨g,cap,cur,e,-⟩
  ·
   subst e0; exact⟨_,_,e⟩
  ·
   exact⟨_,_,e⟩
 clear h;go_enter Tryz.func36,Tryz.ntmps36
 go_wp2_with fail
 go_loopw [5] (fun j wr=>∃ k:Nat,j=.int .i64 k∧k≤n∧w.grownBy wr (Value.slice va n vc).ownBlock∧∃ ys,wr.ownsRow B 62 1 (.slice va n vc) n ys) (fun j _=>n-(intOf j).toNat)
 case atStart=>exact⟨0,rfl,by omega,⟨rfl,rfl,rfl,Nat.le_refl _,fun _ _ _=>rfl⟩,xs,Oe HO⟩
 case round =>
  obtain⟨k,rfl,hk,hb,ys,hown⟩:=hrel;by_cases hlt:k<n
  ·
   obtain⟨g,rfl⟩:∃ g,va=some ⟨g,0,none⟩:=by
    rcases hown.2 with⟨e,e0⟩ | ⟨g,cap,cur,e,-⟩
    ·
     omega
    ·
     injection e with e _ _; exact⟨g,e⟩
   have hgl:=hown.lt g rfl;obtain⟨c0,c1⟩:(∃ u,wr.cell? ⟨g,k,none⟩=some u)∧wr.frozen? ⟨g,k,none⟩=false:=by
    rcases hown.2 with⟨e,e0⟩ | ⟨g',cap,cur,e,h2,h3,h4,h5,h6,h7⟩
    ·
     omega
    ·
     injection e with e _ e3;injection e with e;injection e with e;subst e e3;have hkc:k<cur.size:=by omega
     exact⟨⟨cur[k],by simp [World.cell?,h3,hkc]⟩,by simp [World.frozen?,h3]⟩
   obtain⟨u,c0⟩:=c0;obtain⟨ys',ho2⟩:=Zqu hown k (.int .u64 9999);have HO2:=Ig ho2;have HBL:=Ig hb;clear hb hown ho2;go_wp2;go_roundw
   case rel=>exact⟨k+1,by go_num,by omega,Kk (Oe HBL) (Ztn _ _ _ _),ys',Oe HO2⟩
   case measure=>simp [intOf]; omega
  ·
   obtain rfl:k=n:=by omega
   have HBL:=Ig hb;have HOW:=Ig hown;have hsz:=hb.size;clear hb hown;go_wp2_with (at_builtin; refine Zbb _ rfl _ _ 33 rfl B ti Tryz.underlying33 hti hz0 hz1 hz2 va vc k ys rfl ((Oe HOW).alloc _) ⟨wr.heap.size,0,none⟩ 2 [.int .u64 9999,.int .u64 9999] rfl rfl (by intro j u hj; match j,hj with | 0,hj=>(simp at hj; subst hj; simp [Addr.add]) | 1,hj=>(simp at hj; subst hj; simp [Addr.add])) (by intro u hu; simp at hu; subst hu; rfl) (by omega) ?_)
   intro v' w' ys2 hown' hgr;have HG:=Ig (Kk (Oe HBL) (Kk (Zdr ((Below.refl wr.heap.size wr).alloc (Nat.le_refl _) _)) hgr));have HO3:=Ig (Exists.intro ys2 hown');clear hown' hgr;go_wp2;go_returns;exact⟨⟨_,rfl⟩,Oe HG,Oe HO3⟩
def evC (fs:List Int)(es:List Value):List Value:=(fs.zip es).flatMap fun e=>[.int .i64 e.1,e.2]
structure TrI (V:World)(b:Nat)(N:Nat→Prop)(tv:Value)(tr:List (Int×List Int))(es:List Value):Prop where
 len:es.length=tr.length
 row:V.ownsRow b 99 2 tv tr.length (evC (tr.map (·.1)) es)
 out:∀ g,tv.ownBlock=some g→N g
 each:∀ k,k<tr.length→V.ownsRow b 62 1 (es.getD k .nilIface) (tr.getD k (0,[])).2.length (uC (tr.getD k (0,[])).2)∧∀ g,(es.getD k .nilIface).ownBlock=some g→N g
theorem TrI.keep {V V':World}{b:Nat}{N N':Nat→Prop}{tv:Value}{tr:List (Int×List Int)}{es:List Value}(h:TrI V b N tv tr es)(hk:∀ g cs t,V.heap[g]?=some (.cells cs t (0,0))→t=99∨t=62→b≤g→N g→V'.heap[g]?=V.heap[g]?)(hN:∀ g,b≤g→g<V.heap.size→N g→N' g):TrI V' b N' tv tr es:=by
 refine⟨h.len,Yn h.row fun g hg=>?_,fun g hg=>hN g (h.row.lt g hg).1 (h.row.lt g hg).2 (h.out g hg),fun k hkk=>⟨Yn (h.each k hkk).1 fun g hg=>?_,fun g hg=>hN g ((h.each k hkk).1.lt g hg).1 ((h.each k hkk).1.lt g hg).2 ((h.each k hkk).2 g hg)⟩⟩
 ·
  obtain⟨cs,hr⟩:=Jg h.row hg;exact hk g cs _ hr (Or.inl rfl) (h.row.lt g hg).1 (h.out g hg)
 ·
  obtain⟨cs,hr⟩:=Jg (h.each k hkk).1 hg;exact hk g cs _ hr (Or.inr rfl) ((h.each k hkk).1.lt g hg).1 ((h.each k hkk).2 g hg)
structure Zit where
 kind:Int
 vals:List Int
 tr:List (Int×List Int)
 steps:Int
def Zbf (V:World)(B:Nat)(o:Zit)(vv tv:Value):Prop:=V.ownsRow B 62 1 vv o.vals.length (uC o.vals)∧∃ es,TrI V B (fun _=>True) tv o.tr es
theorem Zhj {V V':World}{B:Nat}{o:Zit}{vv tv:Value}(h:Zbf V B o vv tv)(hk:∀ g,B≤g→g<V.heap.size→V'.heap[g]?=V.heap[g]?):Zbf V' B o vv tv:=by
 obtain⟨h1,es,h2⟩:=h;exact⟨Yn h1 fun g hg=>hk g (h1.lt g hg).1 (h1.lt g hg).2,es,h2.keep (fun g _ _ hr _ hb _=>hk g hb (Zc hr)) (fun _ _ _ h=>h)⟩
theorem Xd {V V':World}{B:Nat}{o:Zit}{vv tv:Value}(h:Zbf V B o vv tv)(hb:Below V.heap.size V V'):Zbf V' B o vv tv:=Zhj h fun g _ hg=>hb.block g hg
theorem Zlo {V:World}{B:Nat}{o:Zit}{vv tv:Value}{es:List Value}(hv:V.ownsRow B 62 1 vv o.vals.length (uC o.vals))(ht:TrM V B tv o.tr es):Zbf V B o vv tv:=⟨hv,es,ht.len,ht.row,fun _ _=>trivial,fun k hk=>⟨ht.each k hk,fun _ _=>trivial⟩⟩
end Go.Proofs.YtnlcfnjeagmemaaGreatDoor
