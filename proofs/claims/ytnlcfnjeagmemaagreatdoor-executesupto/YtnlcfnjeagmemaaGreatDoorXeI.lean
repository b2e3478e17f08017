import Derived.Test.YtnlcfnjeagmemaaGreatDoorJ3
import Derived.Test.YtnlcfnjeagmemaaGreatDoorJ29
namespace Go.Proofs.YtnlcfnjeagmemaaGreatDoor
open Go.RowKit
set_option maxHeartbeats 4000000
set_option maxRecDepth 100000
theorem Zkb (T:Zm):∀(L:List (Xm×Nat)) (m m':Zf) (acc ws:List Int),Zo T m L acc=(m',some ws)→m'=m
 | [],m,m',acc,ws,h=>by
  rw [Zo] at h;injection h with h1 h2;exact h1.symm
 | x :: r,m,m',acc,ws,h=>by
  rw [Zo] at h;split at h
  ·
   rename_i hs;rw [Sw T m x.1 x.2 hs] at h;exact Zkb T r m m' _ ws h
  ·
   injection h with h1 h2;cases h2
theorem Zvw (m:Zf)(h:m.sc=[]):({ m with sc:=m.sc.tail }:Zf)=m:=by
 cases m
 simp only at h;subst h;rfl
theorem Yo.kpe {V V':World}{L:Nat}{av rv:Value}{l:Yc}{pvs:List Value}(h:Yo V L av rv l pvs)(hk:∀(g:Nat) (cs:Array Value) (t:TypeId),L≤g→V.heap[g]?=some (Obj.cells cs t (0,0))→t≠99→V'.heap[g]?=V.heap[g]?):Yo V' L av rv l pvs :=
 ⟨h.len,Yn h.args fun g hg=>by
  obtain⟨cs,hr⟩:=Jg h.args hg;exact hk g cs _ (h.args.lt g hg).1 hr (by decide),fun k hk2=>Yn (h.each k hk2) fun g hg=>by
  obtain⟨cs,hr⟩:=Jg (h.each k hk2) hg;exact hk g cs _ ((h.each k hk2).lt g hg).1 hr (by decide),Yn h.res fun g hg=>by
  obtain⟨cs,hr⟩:=Jg h.res hg;exact hk g cs _ (h.res.lt g hg).1 hr (by decide)⟩
section
variable {w:World} {A B N:Nat} {G:Ji} {eb rb sb:Nat} {a:Int} {m:Zf}
theorem Zic (h:ER w A B N G eb rb sb a m)(hz:Q0 m)(hT:TK G.T)(C:Zk)(w00:World)(hA0:w00.heap.size=A)(hb00:Below w00.heap.size w00 w)(hTb:TbO w00 G.T)(hag:G.T.ag.length≤100)(hrs:G.T.rs.length≤100)(hE:Na w00 A G.ce C.externs)(hG:∀ s ∈ C.externs,Mt s)(htl:m.tr.length≤4194304)(hsc:∀ k,0≤m.sc.getD k 0∧m.sc.getD k 0<18446744073709551616)(f:Int) :
 Calls Tryz.prog 50 #[.pointer (some ⟨eb,0,none⟩),.int .i64 f] w (OuP w A B G eb rb sb a (Xk G.T C m f)):=by
 have hbd:=h.bd;have HAL:=Y (Zub h hz hT);have HB00:=Y hb00;have HTB:=Y hTb;have HE:=Y hE;have HG:=Y hG;have HA0:=Y hA0;clear hb00 hTb hE hG;go_enter Tryz.func50,Tryz.ntmps50
 go_wp2_with fail
 refine(O HAL).mono ?_;rintro e w1 ⟨rfl,h1,k1⟩;clear h HAL;cases hal:(m.aligned G.T).2 with
 | false =>
  have HQ:=Y (show Xk G.T C m f=(m.aligned G.T).1 by unfold Xk; rw [if_pos hal]);have H1:=Y h1;have K1:=Y (k1.low hbd.2.2.2.2.2.2);clear h1 k1;go_wp2;go_ret;rw [O HQ];exact⟨_,_,rfl,O H1,O K1⟩
 | true =>
  rw [Zcw _ _ hal] at h1;have HK1:=Y (k1.low hbd.2.2.2.2.2.2);have HE1:=Y h1;have hb1:Below A w00 w1:=by
   have hb:=O HB00;rw [hA0] at hb;exact⟨k1.os.trans hb.os,k1.tape.trans hb.tape,k1.output.trans hb.output,Nat.le_trans hb.size k1.size,fun q hq=>(k1.oth q (by omega) (by omega) (by omega) (by omega)).trans (hb.block q hq)⟩
  obtain⟨P,hei,-,-,-⟩:=h1.regs;obtain⟨ep,ec,hev,hec,hel,hea⟩:=O HE;have c14:w1.cell? ⟨eb,14,none⟩=some (.slice ep C.externs.length ec):=by rw [← hev]; exact(cR hei 14)
  have HEA:=Y hea;have HB1:=Y hb1;have hB1:B≤w1.heap.size:=h1.bd.2.2.2.2.2.2;clear h1 k1 hei hev hea hb1;by_cases hin:0≤f∧f<(C.externs.length:Int)
  ·
   have hib:Nf f 0 ((C.externs.length:Int)-1)=true:=decide_eq_true (by omega);obtain⟨k,rfl⟩:∃ k:Nat,f=k:=⟨f.toNat,by omega⟩;have hk:k<C.externs.length:=by omega
   obtain⟨g,so,lv,hp,hgA,f0,f1,hli,hrsb⟩:=O HEA k hk;subst hp;have hsg:=O HG (C.externs.getD k ([],0)) (by rw [List.getD_eq_getElem?_getD,List.getElem?_eq_getElem hk]; exact List.getElem_mem hk);have hly:=Of hT hsg;have HQ:=Y (show Xk G.T C m (k:Int)=(match Zo G.T m (Ng (Zr G.T (C.externs.getD k ([],0))).args (C.externs.getD k ([],0)).1) [] with
    | (m',none)=>m'
    | (m',some ws)=>if (Zz G.T { m' with tr:=m'.tr++[((k:Int),ws)] } (Zr G.T (C.externs.getD k ([],0))).size).2=true then Xw G.T (Zz G.T { m' with tr:=m'.tr++[((k:Int),ws)] } (Zr G.T (C.externs.getD k ([],0))).size).1 (Zr G.T (C.externs.getD k ([],0))).res else (Zz G.T { m' with tr:=m'.tr++[((k:Int),ws)] } (Zr G.T (C.externs.getD k ([],0))).size).1) by
    unfold Xk;rw [if_neg (by rw [hal]; decide),if_pos hin,Int.toNat_natCast];rfl)
   generalize C.externs.getD k ([],0)=s at f1 hli hrsb hsg hly HQ;obtain⟨ps,nr⟩:=s;simp only at f1 hli hrsb HQ hly;obtain⟨lp,lc,rfl⟩:=hli.shape;have hb1:=O HB1;have hbw:Below w00.heap.size w00 w1:=by rw [hA0]; exact hb1
   have d0:=(World.cell?_of_block (hb1.block g hgA)).trans f0;have d1:=(World.cell?_of_block (hb1.block g hgA)).trans f1;obtain⟨rg,hbg,hzg⟩:=Zs w1 (.cells #[.slice lp ps.length lc,.int .i64 nr] 59 (0,0));have hbW:=Zb hbw hbg (by have:=hbw.size; omega);have HLF:=Y (fun V (hb:Below (w1.alloc (.cells #[.slice lp ps.length lc,.int .i64 nr] 59 (0,0))).heap.size (w1.alloc (.cells #[.slice lp ps.length lc,.int .i64 nr] 59 (0,0))) V)=>by
    have hbV:=Zb hbW hb hbW.size;exact Zuh (O HTB) hag hrs hT.sh.1 (show G.T.sh≤100 by have:=hT.sh.2.1; omega) hbV hsg (hli.below hbV))
   have HEW:=Y ((O HE1).al (.cells #[.slice lp ps.length lc,.int .i64 nr] 59 (0,0)));have HRG:=Y rg;have HZG:=Y hzg;have HKW:=Y ((O HK1).tr (Dm (a:=eb) (b:=rb) (c:=sb) (Below.mono hbg hB1)));have HRS:=Y (Gy hrsb (Gh (a:=A) (b:=A) (show Below A w00 (w1.alloc (.cells #[.slice lp ps.length lc,.int .i64 nr] 59 (0,0))) by rw [hA0] at hbW; exact hbW)) (Nat.le_refl _) (Nat.le_refl _) (Nat.le_refl _));have hi0:=hin;clear hin hal rg hbg hzg hbW hli hrsb f0 f1 hb1 hbw;go_wp2_with fail
   refine(Mq (k:Int) 0 ((C.externs.length:Int)-1) w1).mono ?_;rintro e w2 ⟨rfl,hw2⟩;subst w2;rw [hib];go_upto_region 6 with fail
   clear c14 d0 d1;have hgb:w1.heap.size<(w1.alloc (.cells #[.slice lp ps.length lc,.int .i64 nr] 59 (0,0))).heap.size:=by have:=O HZG; omega
   generalize hgbE:w1.heap.size=gb at HRG HZG hB1 hgb ⊢;clear hgbE;generalize World.alloc w1 _=W at HLF HEW HRG HZG HKW HRS hgb ⊢;have HCF:=Y (fun V (hb:Below W.heap.size W V)=>show(fun V=>V.cell? ⟨eb,0,none⟩=some (.int .i64 G.T.r)∧V.cell? ⟨eb,1,none⟩=some (.int .i64 G.T.sp)∧V.cell? ⟨eb,2,none⟩=some (.int .i64 G.T.lk)∧V.cell? ⟨eb,3,none⟩=some (.int .i64 G.T.t0)∧V.cell? ⟨eb,4,none⟩=some (.int .i64 G.T.t1)∧V.cell? ⟨eb,5,none⟩=some (.slice G.T.pa G.T.ag.length G.T.ca)∧V.cell? ⟨eb,6,none⟩=some (.slice G.T.pr G.T.rs.length G.T.cr)∧V.cell? ⟨eb,7,none⟩=some (.slice G.T.ps G.T.ss.length G.T.cs)∧V.cell? ⟨eb,8,none⟩=some (.int .i64 G.T.al)∧V.cell? ⟨eb,9,none⟩=some (.int .i64 G.T.sh)∧V.cell? ⟨eb,10,none⟩=some (.int .i64 G.T.br)∧V.cell? ⟨eb,11,none⟩=some (.bool G.T.pairs)∧V.cell? ⟨gb,0,none⟩=some (.slice lp ps.length lc)∧V.cell? ⟨gb,1,none⟩=some (.int .i64 nr)) V from by
    obtain⟨P9,hei,-,-,-⟩:=((O HEW).bel hb).regs;have q1:=(hb.block gb hgb).trans (O HRG);exact⟨(cR hei 0),(cR hei 1),(cR hei 2),(cR hei 3),(cR hei 4),(cR hei 5),(cR hei 6),(cR hei 7),(cR hei 8),(cR hei 9),(cR hei 10),(cR hei 11),(cR q1 0),(cR q1 1)⟩)
   have HC0:=Y (O HCF W.drew (Below.refl _ _).drew);generalize hlE:Zr G.T (ps,nr)=l at HLF HQ hly;clear hlE;have hW1:W.heap.size=gb+1:=O HZG;have HHW:=Y hW1;clear hW1;refine Code.wp_mono (Q:=fun e a1 W'=>e=.normal∧∃ lb ap ac rp rc pvs x15 x16 x17 x18 x19 x20 x21 x22 x23 x24 x25 x26 x27 x30 x31 x32 x33 x34 x35 x36 x37 x38 x39 x40 x41 x42 x43,a1={ tmps:=#[.pointer (some ⟨eb,0,none⟩),.int .i64 (k:Int),undef,undef,.bool false,.pointer (some ⟨gb,0,none⟩),.pointer (some ⟨lb,0,none⟩),undef,undef,undef,undef,undef,undef,undef,undef,x15,x16,x17,x18,x19,x20,x21,x22,x23,x24,x25,x26,x27,undef,undef,x30,x31,x32,x33,x34,x35,x36,x37,x38,x39,x40,x41,x42,x43,undef,undef,undef,undef,undef,undef,undef,undef,undef,undef,undef,undef,undef,undef,undef,undef,undef,undef,undef,undef,undef,undef,undef,undef,undef,undef,undef,undef,undef,undef,undef,undef,undef,undef,undef,undef,undef,undef,undef,undef,undef,undef,undef,undef,undef,undef,undef,undef,undef,undef,undef,undef,undef,undef,undef,undef,undef,undef,undef,undef,undef,undef,undef,undef,undef,undef,undef,undef,undef,undef,undef,undef,undef,undef,undef,undef,undef,undef,undef,undef,undef,undef,undef,undef,undef,undef,undef,undef,undef,undef,undef,undef,undef,undef,undef,undef,undef,undef,undef,undef,undef,undef,undef,undef,undef,undef,undef,undef,undef,undef,undef,undef,undef,undef,undef,undef,undef,undef,undef,undef,undef,undef,undef,undef,undef],defers:=[] }∧Below W.heap.size W W'∧Yo W' W.heap.size (.slice ap l.args.length ac) (.slice rp l.res.length rc) l pvs∧W'.heap[lb]?=some (.cells #[.slice ap l.args.length ac,.slice rp l.res.length rc,.int .i64 l.size,.int .i64 l.copies] 76 (0,0))∧W.heap.size≤lb) ?cont ?reg
   case reg =>
    refine Zh (C:=fun V=>V.cell? ⟨eb,0,none⟩=some (.int .i64 G.T.r)∧V.cell? ⟨eb,1,none⟩=some (.int .i64 G.T.sp)∧V.cell? ⟨eb,2,none⟩=some (.int .i64 G.T.lk)∧V.cell? ⟨eb,3,none⟩=some (.int .i64 G.T.t0)∧V.cell? ⟨eb,4,none⟩=some (.int .i64 G.T.t1)∧V.cell? ⟨eb,5,none⟩=some (.slice G.T.pa G.T.ag.length G.T.ca)∧V.cell? ⟨eb,6,none⟩=some (.slice G.T.pr G.T.rs.length G.T.cr)∧V.cell? ⟨eb,7,none⟩=some (.slice G.T.ps G.T.ss.length G.T.cs)∧V.cell? ⟨eb,8,none⟩=some (.int .i64 G.T.al)∧V.cell? ⟨eb,9,none⟩=some (.int .i64 G.T.sh)∧V.cell? ⟨eb,10,none⟩=some (.int .i64 G.T.br)∧V.cell? ⟨eb,11,none⟩=some (.bool G.T.pairs)∧V.cell? ⟨gb,0,none⟩=some (.slice lp ps.length lc)∧V.cell? ⟨gb,1,none⟩=some (.int .i64 nr)) (d:=7) (by kernel_rfl) ?_;refine vD 0 (O HC0) ?_ (hQ:=fun _ _ _ h=>nomatch h.1);refine vD 1 (O HC0) ?_ (hQ:=fun _ _ _ h=>nomatch h.1);refine vD 2 (O HC0) ?_ (hQ:=fun _ _ _ h=>nomatch h.1);refine vD 3 (O HC0) ?_ (hQ:=fun _ _ _ h=>nomatch h.1);refine vD 4 (O HC0) ?_ (hQ:=fun _ _ _ h=>nomatch h.1);refine Oz 5 6 (fun K hK=>?_) (fun K hK=>?_)
    ·
     go_simp;refine(O HLF W.drew (Below.refl _ _).drew).mono ?_;rintro e w2 ⟨av,rv,pvs,rfl,hly2,hb2⟩;obtain⟨ap,ac,rfl⟩:=Ze hly2.args;obtain⟨rp,rc,rfl⟩:=Ze hly2.res;have HB2:=Y (Zb (show Below W.heap.size W W.drew from(Below.refl _ _).drew) hb2 (Nat.le_refl _));have HLY2:=Y (show Yo w2 W.heap.size (.slice ap l.args.length ac) (.slice rp l.res.length rc) l pvs from hly2);clear hly2 hb2;refine kO hK (fun _=>O HCF w2 (O HB2)) ?_;clear hK K;have HB3:=Y (Zb (O HB2) (Zs w2 (.cells #[.slice none 0 0,.slice none 0 0,.int .i64 0,.int .i64 0] 76 (0,0))).2.1 (O HB2).size);refine vO 6 fun K hK=>?_;go_simp;refine kO hK (fun _=>O HCF _ (O HB3)) ?_;clear hK K;refine vO 7 fun K hK=>?_;go_simp;refine kO hK (fun hx=>by cases hx) ?_;clear hK K;refine Zi (by kernel_rfl) ?_ _;obtain⟨r9,hb9,hz9⟩:=Zs w2 (.cells #[.slice ap l.args.length ac,.slice rp l.res.length rc,.int .i64 l.size,.int .i64 l.copies] 76 (0,0));exact⟨rfl,w2.heap.size,ap,ac,rp,rc,pvs,_,_,_,_,_,_,_,_,_,_,_,_,_,_,_,_,_,_,_,_,_,_,_,_,_,_,_,rfl,Zb (O HB2) hb9 (O HB2).size,Yo.belx (O HLY2) hb9,r9,(O HB2).size⟩
    ·
     have H0:=Y (show Below W.heap.size W (W.alloc (.cells #[.slice none 0 0,.slice none 0 0,.int .i64 0,.int .i64 0] 76 (0,0))).drew from(Zs W _).2.1.drew);have HY0:=Y (show(W.alloc (.cells #[.slice none 0 0,.slice none 0 0,.int .i64 0,.int .i64 0] 76 (0,0))).drew.heap[W.heap.size]?=_ from(Zs W (.cells #[.slice none 0 0,.slice none 0 0,.int .i64 0,.int .i64 0] 76 (0,0))).1);go_simp;refine kO hK (fun _=>O HCF _ (O H0)) ?_;clear hK K;generalize World.drew (World.alloc W _)=W1 at H0 HY0 ⊢;refine vO 5 fun K hK=>?_;go_simp;refine(O HLF W1 (O H0)).mono ?_;rintro e w2 ⟨av,rv,pvs,rfl,hly2,hb2⟩;obtain⟨ap,ac,rfl⟩:=Ze hly2.args;obtain⟨rp,rc,rfl⟩:=Ze hly2.res;have HB2:=Y (Zb (O H0) hb2 (O H0).size);have hlt:=Zc (O HY0);have HY2:=Y ((hb2.block W.heap.size hlt).trans (O HY0));have HLY2:=Y hly2;have HLT:=Y hlt;clear hly2 hb2 hlt;refine kO hK (fun _=>O HCF w2 (O HB2)) ?_;clear hK K;have x0:=((cR (O HY2) 0):_=some (Value.slice none 0 0));have x1:=((cR (O HY2) 1):_=some (Value.slice none 0 0));have x2:=((cR (O HY2) 2):_=some (Value.int .i64 0));have x3:=((cR (O HY2) 3):_=some (Value.int .i64 0));have z0:=frozen_of_row _ _ 0 _ _ (O HY2);have z1:=frozen_of_row _ _ 1 _ _ (O HY2);have z2:=frozen_of_row _ _ 2 _ _ (O HY2);have z3:=frozen_of_row _ _ 3 _ _ (O HY2);refine vO 7 fun K hK=>?_;go_simp;refine kO hK (fun hx=>by cases hx) ?_;clear hK K;refine Zi (by kernel_rfl) ?_ _;have ho:=Zx (Zx (Zx (Zl W.heap.size 0 w2 (.slice ap l.args.length ac)) (Zl W.heap.size 1 _ (.slice rp l.res.length rc))) (Zl W.heap.size 2 _ (.int .i64 l.size))) (Zl W.heap.size 3 _ (.int .i64 l.copies))
     exact⟨rfl,W.heap.size,ap,ac,rp,rc,pvs,_,_,_,_,_,_,_,_,_,_,_,_,_,_,_,_,_,_,_,_,_,_,_,_,_,_,_,rfl,Jj (Jj (Jj (Jj (O HB2) (Nat.le_refl _)) (Nat.le_refl _)) (Nat.le_refl _)) (Nat.le_refl _),Yo.lowx (Yo.kpx (O HLY2) fun g cs t hg _ _=>ho.oth g (by have:=O HLT; omega)) (O H0).size,Ztz (O HY2),Nat.le_refl _⟩
   case cont =>
    rintro e a1 W' ⟨rfl,lb,ap,ac,rp,rc,pvs,x15,x16,x17,x18,x19,x20,x21,x22,x23,x24,x25,x26,x27,x30,x31,x32,x33,x34,x35,x36,x37,x38,x39,x40,x41,x42,x43,rfl,hbW,hlyW,hrl,hlbW⟩;have hzW:=O HHW;have hBW:B≤W.heap.size:=by omega
    have hbd':=(O HEW).bd;have hEW':=(O HEW).bel hbW;have hr':=(hbW.block gb hgb).trans (O HRG);have y0:=((cR hr' 0):_=some (Value.slice lp ps.length lc));have y1:=((cR hr' 1):_=some (Value.int .i64 nr));have l0:=((cR hrl 0):_=some (Value.slice ap l.args.length ac));have l1:=((cR hrl 1):_=some (Value.slice rp l.res.length rc));have l2:=((cR hrl 2):_=some (Value.int .i64 l.size));have l3:=((cR hrl 3):_=some (Value.int .i64 l.copies));have HGV:=Y (Zph hEW' hz hT l (.slice ap l.args.length ac) (.slice rp l.res.length rc) pvs W.heap.size hlyW (by omega) (by omega) (by omega) ps nr hly lp lc (Gy (O HRS) (Gh (a:=A) (b:=A) (Below.mono hbW (by omega))) (Nat.le_refl _) (Nat.le_refl _) (Nat.le_refl _)) hsg.l);have HKW':=Y ((O HKW).tr (Dm (a:=eb) (b:=rb) (c:=sb) (Below.mono hbW hBW)));have HLYW:=Y hlyW;have HRL:=Y hrl;have hlbz:lb<W'.heap.size:=Zc hrl;have hBW':B≤W'.heap.size:=Nat.le_trans hBW hbW.size;have HLY:=Y hly;have HSG:=Y hsg;clear hbW hlyW hrl hr' hEW' HEW HKW HRG HZG HRS HLF HCF HC0 hly hsg hbd';go_wp2_with fail
    refine(O HGV).mono ?_;rintro e w3 ⟨v,rfl,hws,h3,k3⟩;have HK3:=Y ((O HKW').tr (k3.low hBW'));have HWS:=Y hws;have HE3:=Y h3;have HRL3:=Y ((k3.oth lb hlbz (by omega) (by omega) (by omega)).trans (O HRL));have HLY3:=Y (Zda (O HLYW) k3 (show eb<W.heap.size by omega) (show rb<W.heap.size by omega) (show sb<W.heap.size by omega));have hW3:W'.heap.size≤w3.heap.size:=k3.size;clear hws h3 k3 y0 y1 l0 l1 l2 l3 HGV HKW' HLYW HRL;have HWM:=Y (fun m' ws h=>Zkb G.T (Ng l.args ps) m m' [] ws h);generalize Zo G.T m (Ng l.args ps) []=y at HWS HE3 HQ HWM ⊢;obtain⟨m5,o5⟩:=y;cases o5 with
    | none =>
     have HQ2:=Y (show Xk G.T C m (k:Int)=m5 from O HQ);have HE5:=Y (show ER w3 A B N G eb rb sb a m5 from O HE3);clear HQ HE3 HWS;go_wp2;go_ret;rw [O HQ2];exact⟨_,_,rfl,O HE5,O HK3⟩
    | some ws =>
     obtain rfl:=O HWM m5 ws rfl;obtain⟨how,hwl⟩:=O HWS ws rfl;obtain⟨wp,wc,rfl⟩:=Ze how;have HQ2:=Y (show Xk G.T C m5 (k:Int)=if (Zz G.T { m5 with tr:=m5.tr++[((k:Int),ws)] } l.size).2=true then Xw G.T (Zz G.T { m5 with tr:=m5.tr++[((k:Int),ws)] } l.size).1 l.res else (Zz G.T { m5 with tr:=m5.tr++[((k:Int),ws)] } l.size).1 from O HQ);obtain⟨P5,es5,hP5⟩:=(show ER w3 A B N G eb rb sb a m5 from O HE3);obtain⟨tp,tc,htv⟩:=Ze hP5.tr.row;have HP5:=Y hP5;have HHW2:=Y how;have htr:=hP5.tr.row;rw [htv] at htr;have HTR:=Y htr;have HTV:=Y htv;have c28:w3.cell? ⟨eb,28,none⟩=some (.slice tp m5.tr.length tc):=by rw [← htv]; exact(cR hP5.ei 28)
     obtain⟨tj,htj,htj0,htj1,htj2⟩:=Yr Tryz.infoEvX;have hB3:B≤w3.heap.size:=Nat.le_trans hP5.bn hP5.nw;clear HQ HE3 HWS how hP5 htv htr HWM;go_wp2_with (at_builtin; refine wpList_append_own _ rfl _ _ 39 rfl B 99 tj _ 2 32 Tryz.underlying39 htj htj0 htj1 htj2 rfl (by decide) _ _ _ rfl (World.ownsRow.alloc (O HTR) _) ⟨w3.heap.size,0,none⟩ 1 1 [.int .i64 (k:Int),.slice wp ws.length wc] rfl rfl ?c1 ?c2 ?c3 ?c4 ?c5 ?_)
     case c1 =>
      intro j u hj;match j,hj with
      | 0,hj=>(simp at hj; subst hj; simp [Addr.add])
      | 1,hj=>(simp at hj; subst hj; simp [Addr.add])
     case c2 =>
      intro u hu;simp at hu;rcases hu with rfl | rfl <;> rfl
     case c3=>unfold maxLen; omega
     case c4=>omega
     case c5=>first | omega | (simp; omega)
     intro v7 w7 hown7 hgr7 _;obtain⟨tp7,tc7,rfl⟩:=Ze hown7;obtain⟨r6,hb6,hz6⟩:=Zs w3 (.cells #[.int .i64 (k:Int),.slice wp ws.length wc] 99 (0,0));have hW2:=World.ownsRow.alloc (O HHW2) (.cells #[.int .i64 (k:Int),.slice wp ws.length wc] 99 (0,0));have hEV:=EP.event (O HP5) hb6 hBW' hW2 (by rw [O HTV]; exact hgr7) hown7;have hei7:=((hgr7.block eb (by omega) (fun e=>by have:=((World.ownsRow.alloc (O HTR) (.cells #[.int .i64 (k:Int),.slice wp ws.length wc] 99 (0,0))).lt eb e.symm).1; omega)).trans (hb6.block eb (by omega))).trans (O HP5).ei;have hlb7:=(hgr7.block lb (by omega) (fun e=>by
      obtain⟨cs2,hr2⟩:=Jg (World.ownsRow.alloc (O HTR) (.cells #[.int .i64 (k:Int),.slice wp ws.length wc] 99 (0,0))) e.symm;exact Jf hr2 ((hb6.block lb (by omega)).trans (O HRL3)) (by decide) rfl)).trans ((hb6.block lb (by omega)).trans (O HRL3))
     have d28:=((cR hei7 28):_=some P5.tv);rw [O HTV] at d28;have z28:=frozen_of_row _ _ 28 _ _ hei7;have hei8:=heap_setCell_same _ _ 28 _ _ (.slice tp7 (m5.tr.length+1) tc7) hei7;have d23:=((cR hei8 23):_=some (Value.int .i64 (m5.tr.length:Int)));have z23:=frozen_of_row _ _ 23 _ _ hei8;have HEV:=Y hEV;have hO:=Zx (Zl eb 28 w7 (.slice tp7 (m5.tr.length+1) tc7)) (Zl eb 23 _ (.int .i64 ((m5.tr.length:Int)+1)));have HLB:=Y ((hO.oth lb (by omega)).trans hlb7);have HLY7:=Y (Yo.kpe (O HLY3) fun g cs t hg hr ht=>(hO.oth g (by omega)).trans ((hgr7.block g (by have:=Zc hr; omega) (fun e=>by
      obtain⟨cs2,hr2⟩:=Jg (World.ownsRow.alloc (O HTR) (.cells #[.int .i64 (k:Int),.slice wp ws.length wc] 99 (0,0))) e.symm;exact Jf hr2 ((hb6.block g (Zc hr)).trans hr) (fun e=>ht e.symm) rfl)).trans (hb6.block g (Zc hr))))
     clear hEV hei7 hei8 hlb7 hO hgr7 hown7 r6 hb6 hz6 hW2 c28;go_upto_region 13 with fail
     clear d28 z28 d23 z23;have hz6:Q0 ({ m5 with tr:=m5.tr++[((k:Int),ws)] }:Zf):=⟨hz.kind,hz.code,hz.vals⟩;have hs6:({ m5 with tr:=m5.tr++[((k:Int),ws)] }:Zf).sc=m5.sc:=rfl;have hb6:IntKind.u64.wrap (65536*((({ m5 with tr:=m5.tr++[((k:Int),ws)] }:Zf).tr.length:Nat):Int))=65536*((m5.tr.length:Int)+1):=by
      rw [show(((({ m5 with tr:=m5.tr++[((k:Int),ws)] }:Zf).tr.length:Nat)):Int)=(m5.tr.length:Int)+1 by simp];exact Lb (by omega) (by omega)
     generalize ({ m5 with tr:=m5.tr++[((k:Int),ws)] }:Zf)=m6 at HEV HQ2 hz6 hb6 hs6;have HSP:=Y (show Zz G.T m6 l.size=Ys G.T (IntKind.u64.wrap (65536*(m6.tr.length:Int))) ((l.size+7) / 8).toNat 0 { m6 with rg:=Lk G.T m6.rg (IntKind.u64.wrap (65536*(m6.tr.length:Int))) } from rfl);rw [hb6] at HSP;clear hb6;generalize World.setCell (World.setCell w7 _ _) _ _=U at HEV HLB HLY7 ⊢;generalize (65536*((m5.tr.length:Int)+1))=base at HSP ⊢;generalize w7.heap.size=N7 at HEV;obtain⟨hE8,hK8⟩:=O HEV;have HE8:=Y hE8;have HK8:=Y ((O HK3).tr hK8);have hsU:B≤U.heap.size:=hE8.bd.2.2.2.2.2.2;have hlbU:lb<U.heap.size:=Zc (O HLB);have HBV:=Y (fun(V:World) (k:Ke B eb rb sb w V)=>show Rs V (.slice G.T.ps G.T.ss.length G.T.cs) G.T.ss from by
      have hb:=O HB00;rw [hA0] at hb;have hb2:Below A w00 V:=⟨k.os.trans hb.os,k.tape.trans hb.tape,k.output.trans hb.output,Nat.le_trans hb.size k.size,fun q hq=>(k.oth q (by omega) (by omega) (by omega) (by omega)).trans (hb.block q hq)⟩;have hs:=(O HTB).s.low;rw [hA0] at hs;exact(Gy hs (Gh (a:=A) (b:=A) hb2) (Nat.le_refl _) (Nat.le_refl _) (Nat.le_refl _)).rs)
     obtain⟨P8,hei8,hrv8,-,hrg8⟩:=hE8.regs;obtain⟨rn,hrn⟩:∃ n:Nat,n=G.T.r.toNat:=⟨_,rfl⟩;have hrr:(rn:Int)=G.T.r:=by have:=hT.r4; omega
     have c19:U.cell? ⟨eb,19,none⟩=some (.slice (some ⟨rb,0,none⟩) rn rn):=by rw [hrn,← hrv8]; exact(cR hei8 19)
     have r16:(rn:Int)≤16:=by have:=hT.r16; omega
     have HRR:=Y hrr;have HRN:=Y hrn;clear hE8 hK8 hei8 hrv8 hrg8 HEV hrr hrn HB00 HTB HE HG HEA HE1 HB1 HRL3 HLY3 HP5 HHW2 HTR HTV htj htj0 htj1 htj2;go_wp2_with fail
     clear c19;go_loopw [85] (fun s85 V=>∃ r:Nat,s85=.int .i64 r∧r≤rn∧ER V A B N7 G eb rb sb a { m6 with rg:=Mb G.T m6.rg base r }∧Ke U.heap.size eb rb sb U V) (fun s85 _=>rn-(intOf s85).toNat)
     case atStart=>exact⟨0,rfl,by omega,by rw [Ir]; exact O HE8,Ke.rf _ _ _ _ _⟩
     case round =>
      obtain⟨r,rfl,hr,her,hke⟩:=hrel;by_cases hr2:r<rn
      ·
       obtain⟨P1,hei,hrv,-,hrg⟩:=her.regs;have e1:wr.cell? ⟨eb,1,none⟩=some (.int .i64 (G.T.spN:Int)):=by rw [← hT.sp]; exact(cR hei 1)
       have e7:wr.cell? ⟨eb,7,none⟩=some (.slice G.T.ps G.T.ss.length G.T.cs):=(cR hei 7);have e19:wr.cell? ⟨eb,19,none⟩=some (.slice (some ⟨rb,0,none⟩) rn rn):=by rw [O HRN,← hrv]; exact(cR hei 19)
       have q1:=hrg r (by rw [← O HRN]; exact hr2);obtain⟨P2,es2,hP2⟩:=her;have z1:=frozen_of_row _ _ r _ _ hP2.rg;have HER:=Y (show ER wr A B N7 G eb rb sb a { m6 with rg:=Mb G.T m6.rg base r } from⟨P2,es2,hP2⟩);have HKV:=Y hke;have hwk:IntKind.u64.wrap (r:Int)=r:=Lb (by omega) (by omega);have hr1:(r:Int)<(rn:Int):=by omega
       have HCT:=Y (Zcg G.T.ss (r:Int) _ wr (O HBV wr ((O HK8).tr (hke.low hsU))) (by have:=hT.ls; omega));have HM2:=Y (show ER (wr.setCell ⟨rb,r,none⟩ (.int .u64 (IntKind.u64.wrap (base+r)))) A B N7 G eb rb sb a { m6 with rg:=Yy (Mb G.T m6.rg base r) r (IntKind.u64.wrap (base+r)) } from⟨P2,es2,hP2.reg r _ (Mi _)⟩);have HK2:=Y (hke.tr (Zax (Zl rb r wr (.int .u64 (IntKind.u64.wrap (base+r))))));generalize Mb G.T m6.rg base r r=old at q1;clear hke hei hrv hrg hP2;by_cases hks:r=G.T.spN
       ·
        have hb:((r:Int) != (G.T.spN:Int))=false:=by rw [hks]; simp
        have HNX:=Y (Rr G.T m6.rg base r (.inl hks));clear hks;go_wp2;go_roundw
        case rel=>exact⟨r+1,by go_num,by omega,by rw [O HNX]; exact O HER,O HKV⟩
        case measure=>simp [intOf]; omega
       ·
        have hb:((r:Int) != (G.T.spN:Int))=true:=by simp; omega
        go_wp2_with fail
        refine(O HCT).mono ?_;rintro e w2 ⟨rfl,hw2⟩;subst w2;by_cases hin:(r:Int) ∈ G.T.ss
        ·
         have HNX:=Y (Rr G.T m6.rg base r (.inr (by simpa using hin)));rw [decide_eq_true hin];go_wp2;go_roundw
         case rel=>exact⟨r+1,by go_num,by omega,by rw [O HNX]; exact O HER,O HKV⟩
         case measure=>simp [intOf]; omega
        ·
         have HNX:=Y (Zbs G.T m6.rg base r hks (by simpa using hin));rw [decide_eq_false hin];go_wp2;go_roundw
         case rel=>exact⟨r+1,by go_num,by omega,by rw [O HNX]; exact O HM2,O HK2⟩
         case measure=>simp [intOf]; omega
      ·
       have hrn2:r=rn:=by omega
       subst hrn2;rw [Zbt _ _ _ _ (O HRR)] at her;obtain⟨cnt,hcnt⟩:∃ c,c=((l.size+7) / 8).toNat:=⟨_,rfl⟩;rw [← hcnt] at HSP;have hz1:Q0 ({ m6 with rg:=Lk G.T m6.rg base }:Zf):=⟨hz6.kind,hz6.code,hz6.vals⟩;have hs1:({ m6 with rg:=Lk G.T m6.rg base }:Zf).sc=m5.sc:=hs6;generalize ({ m6 with rg:=Lk G.T m6.rg base }:Zf)=m1 at HSP her hz1 hs1;have HER:=Y her;have HKE:=Y hke;have hls0:=(O HLY).s0;have hls1:=(O HLY).s1;clear her hke HE8;go_wp2_with fail
       go_loopw [11] (fun s11 V=>∃(j:Nat) (mm:Zf),s11=.int .i64 (j:Int)∧j≤cnt∧ER V A B N7 G eb rb sb a mm∧Q0 mm∧mm.sc=m5.sc∧Ke U.heap.size eb rb sb U V∧Ys G.T base cnt 0 m1=Ys G.T base (cnt-j) j mm) (fun s11 _=>cnt-(intOf s11).toNat)
       case atStart=>exact⟨0,m1,rfl,by omega,O HER,hz1,hs1,O HKE,rfl⟩
       case round =>
        obtain⟨j,mm,rfl,hj,her,hzm,hsm,hke,hco⟩:=hrel;have hlr:=(hke.oth lb hlbU (by omega) (by omega) (by omega)).trans (O HLB);have d1:=((cR hlr 1):_=some (Value.slice rp l.res.length rc));have d2:=((cR hlr 2):_=some (Value.int .i64 l.size));have HKV:=Y hke;have HMV:=Y her;clear hke her hlr;by_cases hj2:j<cnt
        ·
         have hlt:8*(j:Int)<l.size:=by omega
         have hwu:IntKind.u64.wrap (8*(j:Int))=8*(j:Int):=Lb (by omega) (by omega);have HCO:=Y (show Ys G.T base cnt 0 m1=Ys G.T base (cnt-(j+1)+1) j mm by rw [hco,show cnt-j=cnt-(j+1)+1 by omega]);have HST:=Y (fun k1=>by
          have:=Uh ((O HMV).dr k1) hzm (mm.sp G.T) (8*(j:Int)) 8 (IntKind.u64.wrap (IntKind.u64.wrap (base+1000)+8*(j:Int))) (Mi _);rw [show Xr (mm.sp G.T) (8*(j:Int))=IntKind.u64.wrap (mm.sp G.T+8*(j:Int)) by unfold Xr; rw [hwu]] at this;exact this)
         clear hco;go_wp2_with fail
         refine(Nh (O HMV) hT).mono ?_;rintro e w1 ⟨rfl,k1,hw1⟩;subst w1;go_wp2_with fail
         refine(O HST k1).mono ?_;rintro e w2 ⟨rfl,h2,x2⟩;have HM2:=Y h2;have HK2:=Y (((O HKV).dr k1).tr (x2.low (O HKV).size));clear h2 x2 HST;cases hzz:(mm.store (IntKind.u64.wrap (mm.sp G.T+8*(j:Int))) 8 (IntKind.u64.wrap (IntKind.u64.wrap (base+1000)+8*(j:Int)))).2 with
         | false =>
          have HQ3:=Y (show Ys G.T base cnt 0 m1=((mm.store (IntKind.u64.wrap (mm.sp G.T+8*(j:Int))) 8 (IntKind.u64.wrap (IntKind.u64.wrap (base+1000)+8*(j:Int)))).1,false) by rw [O HCO,Ys,if_neg (by rw [hzz]; decide)]);go_wp2;go_ret;rw [O HQ2,O HSP,O HQ3,if_neg (by simp)];exact⟨_,_,rfl,O HM2,(O HK8).tr ((O HK2).low hsU)⟩
         | true =>
          have HQ3:=Y (show Ys G.T base cnt 0 m1=Ys G.T base (cnt-(j+1)) (j+1) (mm.store (IntKind.u64.wrap (mm.sp G.T+8*(j:Int))) 8 (IntKind.u64.wrap (IntKind.u64.wrap (base+1000)+8*(j:Int)))).1 by rw [O HCO,Ys,if_pos hzz]);go_wp2;go_roundw
          case rel=>exact⟨j+1,_,by go_num,by omega,O HM2,Uj hzm hzz,(Xx _ _ _ _).sc.trans hsm,O HK2,O HQ3⟩
          case measure=>simp [intOf]; omega
        ·
         have hjn:j=cnt:=by omega
         subst hjn;have hlt:¬ 8*(j:Int)<l.size:=by omega
         rw [Nat.sub_self,Ys] at hco;have HQ4:=Y (show Xk G.T C m5 (k:Int)=Zay G.T mm l.res by rw [O HQ2,O HSP,hco,if_pos rfl]; unfold Xw; exact Zfn G.T l.res mm);have hwr:Zdm G.T mm l.size:=by
          have:=Zqe G.T m6 l.size (by rw [O HSP,hco]) hls1;rw [O HSP,hco] at this;exact this
         have hsb:∀ i,0≤mm.sc.getD i 0∧mm.sc.getD i 0<18446744073709551616:=by rw [hsm]; exact hsc
         have HPL:=Y (O HLY).rs;have hrl:l.res.length≤4:=by
          have:=(O HLY).res;have:=(O HSG).r4;have:=(O HSG).r0;simp only at *;omega
         clear hco HQ2 HSP;go_wp2_with fail
         clear d1 d2;go_loopw [139] (fun s139 V=>∃(q:Nat) (mq:Zf),s139=.int .i64 q∧q≤l.res.length∧ER V A B N7 G eb rb sb a mq∧Q0 mq∧Zdm G.T mq l.size∧(∀ i,0≤mq.sc.getD i 0∧mq.sc.getD i 0<18446744073709551616)∧Ke U.heap.size eb rb sb U V∧Zay G.T mm l.res=Zay G.T mq (l.res.drop q)) (fun s139 _=>l.res.length-(intOf s139).toNat)
         case atStart=>exact⟨0,mm,rfl,by omega,O HMV,hzm,hwr,hsb,O HKV,rfl⟩
         case round =>
          obtain⟨q,mq,rfl,hq,her,hzq,hwq,hbq,hke,hco⟩:=hrel;by_cases hq2:q<l.res.length
          ·
           obtain⟨gp,cg,f0,hLg,d0,d1⟩:=Gv (Zda (O HLY7) hke (show eb<W.heap.size by omega) (show rb<W.heap.size by omega) (show sb<W.heap.size by omega)).res hq2;injection f0 with f1 f2 f3;subst f1;have hpk:=O HPL _ (Je hq2);have HNX:=Y (hco.trans (Zpi G.T l.res mq q hq2));generalize l.res.getD q (0,0)=p at d0 d1 hpk HNX;obtain⟨pa,pb⟩:=p;simp only at d0 d1;have hpa:pa=-1∨0≤pa∧pa<G.T.r∧pa≠G.T.sp:=by
            rcases hpk with h | h <;> simp only at h <;> omega
           have HWK:=Y (Zan (m:={ mq with sc:=mq.sc.tail }) (mq.sc.headD 0) hT (hwq.same rfl rfl) hpk);obtain⟨hra,hba,hsa⟩:=Zs wr (.cells #[.int .i64 pa,.int .i64 pb] 91 (0,0));have HMA:=Y (her.al (.cells #[.int .i64 pa,.int .i64 pb] 91 (0,0)));have g0:=((cR hra 0):_=some (Value.int .i64 pa));have g1:=((cR hra 1):_=some (Value.int .i64 pb));have hzr:=hke.size;have HK2:=Y (hke.tr ((Dm (a:=eb) (b:=rb) (c:=sb) hba).low hzr));clear her hke hra hba hsa hpk f2 f3 hco;go_upto_region 28 with fail
           have hwz:wr.heap.size≠eb:=by omega
           generalize hV2:World.alloc wr _=V2 at HMA g0 g1 HK2 ⊢;clear d0 d1 hV2;obtain⟨P9,es9,hP9⟩:=O HMA;obtain⟨sp9,sc9,hsv,h92,h93,h94⟩:=hP9.sc;have c21:V2.cell? ⟨eb,21,none⟩=some (.slice sp9 mq.sc.length sc9):=by rw [← hsv]; exact(cR hP9.ei 21)
           have z21:=frozen_of_row _ _ 21 _ _ hP9.ei;have HSC9:=Y (show Lz V2 A (.slice sp9 mq.sc.length sc9) mq.sc by rw [← hsv]; exact hP9.sc);have HP9:=Y hP9;have H94:=Y h94;clear hP9 hsv h94;by_cases hn0:mq.sc.length=0
           ·
            have hnil:mq.sc=[]:=List.length_eq_zero_iff.1 hn0;have hmq:=Zvw mq hnil;have hh:mq.sc.headD 0=0:=by rw [hnil]; rfl
            rw [hmq,hh] at HNX HWK;rw [hn0] at c21;clear hmq hh h92 h93 HP9 H94 HSC9;go_wp2_with fail
            refine(Se (O HMA) hzq hT pa pb 0 hpa (by decide)).mono ?_;rintro e w2 ⟨rfl,h2,x2⟩;rw [(O HWK).1];have HM3:=Y h2;have HK4:=Y ((O HK2).tr (x2.low (O HK2).size));clear h2 x2 c21 z21;go_wp2;go_roundw
            case rel=>exact⟨q+1,_,by go_num,by omega,O HM3,(O HWK).2.2 hzq,(O HWK).2.1,by rw [(Um _ _ _ _).sc]; exact hbq,O HK4,O HNX⟩
            case measure=>simp [intOf]; omega
           ·
            have hn1:0<mq.sc.length:=by omega
            have hn2:(0:Int)<(mq.sc.length:Int):=by omega
            obtain⟨gs,so,hsp,hgs,hcs⟩:=O H94 hn1;subst hsp;have s0:V2.cell? ⟨gs,so,none⟩=some (.int .u64 (mq.sc.headD 0)):=by
             have:=hcs 0 hn1;rw [show mq.sc.headD 0=mq.sc.getD 0 0 by generalize mq.sc=z; cases z <;> rfl];simpa using this
            have HL9:=Y (show Lz V2 A (.slice (if sc9=1 then some (⟨gs,so,none⟩:Addr) else some ⟨gs,so+1,none⟩) (mq.sc.length-1) (sc9-1)) mq.sc.tail by rw [← List.drop_one]; exact(O HSC9).cut (n:=1) (m:=1) (by omega));have HHB:=Y (show 0≤mq.sc.headD 0∧mq.sc.headD 0<18446744073709551616 by rw [show mq.sc.headD 0=mq.sc.getD 0 0 by generalize mq.sc=z; cases z <;> rfl]; exact hbq 0);have h1n:(1:Int)≤(mq.sc.length:Int):=by omega
            have h1N:1≤mq.sc.length:=hn1;clear hcs HMA;generalize mq.sc.headD 0=y at s0 HHB HWK HNX;go_upto_region 31 with fail
            generalize hv9:(Value.slice (if sc9=1 then some (⟨gs,so,none⟩:Addr) else some ⟨gs,so+1,none⟩) (mq.sc.length-1) (sc9-1))=v9 at HL9 ⊢;clear hv9 s0 c21 z21;have HM9:=Y ((O HP9).script v9 mq.sc.tail (O HL9));have HK9:=Y ((O HK2).tr (Sa (Zl eb 21 V2 v9)));have k0:=(World.cell?_of_block (show(V2.setCell ⟨eb,21,none⟩ v9).heap[wr.heap.size]?=V2.heap[wr.heap.size]? from heap_setCell_other _ _ _ _ hwz)).trans g0;have k1:=(World.cell?_of_block (show(V2.setCell ⟨eb,21,none⟩ v9).heap[wr.heap.size]?=V2.heap[wr.heap.size]? from heap_setCell_other _ _ _ _ hwz)).trans g1;generalize World.setCell V2 _ _=U9 at HM9 HK9 k0 k1 ⊢;clear g0 g1 HP9 H94 HSC9 HL9;have hzt:Q0 ({ mq with sc:=mq.sc.tail }:Zf):=⟨hzq.kind,hzq.code,hzq.vals⟩;have HBT:=Y (show ∀ i,0≤({ mq with sc:=mq.sc.tail }:Zf).sc.getD i 0∧({ mq with sc:=mq.sc.tail }:Zf).sc.getD i 0<18446744073709551616 from Zsg hbq);generalize ({ mq with sc:=mq.sc.tail }:Zf)=mt at HM9 HWK HNX hzt HBT;go_wp2_with fail
            refine(Se (O HM9) hzt hT pa pb y hpa (O HHB)).mono ?_;rintro e w2 ⟨rfl,h2,x2⟩;rw [(O HWK).1];have HM3:=Y h2;have HK4:=Y ((O HK9).tr (x2.low (O HK9).size));clear h2 x2;go_wp2;go_roundw
            case rel=>exact⟨q+1,_,by go_num,by omega,O HM3,(O HWK).2.2 hzt,(O HWK).2.1,by rw [(Um _ _ _ _).sc]; exact O HBT,O HK4,O HNX⟩
            case measure=>simp [intOf]; omega
          ·
           have hqn:q=l.res.length:=by omega
           subst hqn;rw [List.drop_length,Zay] at hco;have HMR:=Y her;have HKX:=Y hke;have HCO:=Y hco;clear her hke hco;go_wp2;go_ret;rw [O HQ4,O HCO];exact⟨_,_,rfl,O HMR,(O HK8).tr ((O HKX).low hsU)⟩
  ·
   have hib:Nf f 0 ((C.externs.length:Int)-1)=false:=decide_eq_false (by omega);have HQ:=Y (show Xk G.T C m f=m.fault 1 by unfold Xk; rw [if_neg (by rw [hal]; decide),if_neg hin]);clear hin hal;go_wp2_with fail
   refine(Mq f 0 ((C.externs.length:Int)-1) w1).mono ?_;rintro e w2 ⟨rfl,hw2⟩;subst w2;rw [hib];go_wp2_with fail
   refine(Mg (O HE1) hz 1).mono ?_;rintro e w3 ⟨rfl,h3,k3⟩;have H3:=Y h3;have K3:=Y ((O HK1).tr (k3.low hB1));clear h3 k3;go_wp2;go_ret;rw [O HQ];exact⟨_,_,rfl,O H3,O K3⟩
end
end Go.Proofs.YtnlcfnjeagmemaaGreatDoor
