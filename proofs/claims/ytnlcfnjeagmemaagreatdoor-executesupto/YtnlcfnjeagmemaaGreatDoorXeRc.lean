import Derived.Test.YtnlcfnjeagmemaaGreatDoorJ3
import Derived.Test.YtnlcfnjeagmemaaGreatDoorJ45
namespace Go.Proofs.YtnlcfnjeagmemaaGreatDoor
open Go.RowKit
set_option maxHeartbeats 4000000
set_option maxRecDepth 100000
def okB (T:Zm)(was:Nat→Int)(m:Zf)(q:Nat):Bool:=decide (m.rg q=was q)||!(decide (q=T.spN)||decide ((q:Int) ∈ T.ss))
def Zig (T:Zm)(was:Nat→Int)(m:Zf)(r:Nat):Bool:=(List.range r).all fun q=>okB T was m q
theorem Zfw (T:Zm)(was:Nat→Int)(m:Zf)(r:Nat):Zig T was m (r+1)=(Zig T was m r&&okB T was m r):=by
 simp [Zig,List.range_succ,List.all_append]
theorem Zpq {T:Zm}(hT:TK T)(was:Nat→Int)(m:Zf):Zig T was m T.r.toNat=Ma T was m:=by
 have hs:=hT.spl;rw [Bool.eq_iff_iff];unfold Zig Ma okB;simp only [List.all_eq_true,List.mem_range,Bool.or_eq_true,Bool.not_eq_true',Bool.or_eq_false_iff,decide_eq_true_eq,decide_eq_false_iff_not,Bool.and_eq_true];constructor
 ·
  intro h;refine⟨fun r hr=>?_,?_⟩
  ·
   obtain⟨h0,h1⟩:=hT.ss r hr;rcases h r.toNat (by omega) with h2 | h2
   ·
    exact h2
   ·
    refine absurd ?_ h2.2;rw [show((r.toNat:Nat):Int)=r by omega];exact hr
  ·
   rcases h T.spN hs with h2 | h2
   ·
    exact h2
   ·
    exact absurd rfl h2.1
 ·
  rintro⟨h1,h2⟩ q hq;by_cases hqs:q=T.spN
  ·
   left
   rw [hqs];exact h2
  ·
   by_cases hqm:(q:Int) ∈ T.ss
   ·
    left
    have:=h1 _ hqm;simpa using this
   ·
    exact .inr ⟨hqs,hqm⟩
theorem Zms {M:Zf}(h1:M.kind=1)(h2:M.vals=[]):M=M.endK 1 []:=by
 cases M
 simp only at h1 h2;subst h1 h2;rfl
def mF5 (m:Zf):Zf:={ m with kind:=5,code:=5 }
def mA (T:Zm)(was:Nat→Int)(m:Zf)(r:Nat):Zf:=if Zig T was m r=true then m else mF5 m
theorem Zue (T:Zm)(was:Nat→Int)(m:Zf)(r:Nat)(h:okB T was m r=true):mA T was m (r+1)=mA T was m r:=by
 unfold mA;rw [Zfw,h,Bool.and_true]
theorem Zuf (T:Zm)(was:Nat→Int)(m:Zf)(r:Nat)(h:okB T was m r=false):mA T was m (r+1)=mF5 (mA T was m r):=by
 unfold mA;rw [Zfw,h,Bool.and_false,if_neg (by decide)];split <;> rfl
theorem Zze (T:Zm)(was:Nat→Int)(m:Zf)(r:Nat):(mA T was m r).rg=m.rg:=by
 unfold mA;split <;> rfl
section
variable {w:World} {A B N:Nat} {G:Ji} {eb rb sb:Nat} {a:Int} {m:Zf}
theorem ER.f5 (h:ER w A B N G eb rb sb a m):ER ((w.setCell ⟨eb,25,none⟩ (.int .i64 5)).setCell ⟨eb,27,none⟩ (.int .i64 5)) A B N G eb rb sb a (mF5 m):=by
 obtain⟨P,es,h⟩:=h;exact h.own (m':=mF5 m) (P':=P) (a':=a) (Zx (Zl eb 25 w (.int .i64 5)) (Zl eb 27 _ (.int .i64 5))) (Uf (m:=toE G P a { m with kind:=5 }) (Uf h.ei rfl) rfl) ⟨rfl,rfl,rfl,rfl,.inl ⟨rfl,rfl⟩⟩ rfl rfl rfl
theorem EP.vapp {V V3:World}{P:PV}{es:List Value}{x:Int}{vv':Value}(h:EP w A B N G eb rb sb P es a m)(hb:Below w.heap.size w V)(hg:V.grownBy V3 P.vv.ownBlock)(ho:V3.ownsRow B 62 1 vv' (m.vals.length+1) (uC m.vals++[.int .u64 x]))(hn:∀ g,vv'.ownBlock=some g→P.vv.ownBlock=some g∨V.heap.size≤g)(hd:∀ k,k<m.tr.length→Dj P.vv (es.getD k .nilIface)) :
 V3.heap[eb]?=w.heap[eb]?∧EP (V3.setCell ⟨eb,26,none⟩ vv') A B V3.heap.size G eb rb sb { P with vv:=vv' } es a { m with vals:=m.vals++[x] }∧Ke B eb rb sb w (V3.setCell ⟨eb,26,none⟩ vv')∧∀ k,k<m.tr.length→Dj vv' (es.getD k .nilIface):=by
 have hbe:=h.be;have hbr:=h.br;have hbs:=h.bs;have hbn:=h.bn;have hnw:=h.nw;have hz:=hb.size;have hgz:=hg.size;have hne:=h.er;have hO:=Zl eb 26 V3 vv';have ovv:V.ownsRow B 62 1 P.vv m.vals.length (uC m.vals):=Yn h.vv fun g hg=>hb.block g (h.vv.lt g hg).2;have h3:∀ q,q<w.heap.size→P.vv.ownBlock≠some q→V3.heap[q]?=w.heap[q]?:=fun q h1 h2=>(hg.block q (by omega) (fun e=>h2 e.symm)).trans (hb.block q h1);have hlo:∀ g,P.vv.ownBlock=some g→B≤g:=fun g e=>(ovv.lt g e).1;have h3b:∀ q,q<B→V3.heap[q]?=w.heap[q]?:=fun q hq=>h3 q (by omega) (fun e=>by have:=hlo q e; omega);have oev:∀ k,k<m.tr.length→V.ownsRow B 62 1 (es.getD k .nilIface) (m.tr.getD k (0,[])).2.length (uC (m.tr.getD k (0,[])).2):=fun k hk=>Yn (h.tr.each k hk) fun g hg=>hb.block g ((h.tr.each k hk).lt g hg).2;have hU:∀ q,q≠eb→(V3.setCell ⟨eb,26,none⟩ vv').heap[q]?=V3.heap[q]?:=fun q hq=>hO.oth q hq;have hei:=heap_setCell_same _ _ 26 _ _ vv' ((h3b eb hbe).trans h.ei);have k:Ke B eb rb sb w (V3.setCell ⟨eb,26,none⟩ vv'):=⟨hO.os.trans (hg.os.trans hb.os),hO.tape.trans (hg.tape.trans hb.tape),hO.output.trans (hg.output.trans hb.output),by have:=hO.size; omega,fun q h1 h2 _ _=>(hU q h2).trans (h3b q h1)⟩;refine⟨h3b eb hbe,⟨hei,(hU rb hne.1.symm).trans ((h3b rb hbr).trans h.rg),(hU sb hne.2.1.symm).trans ((h3b sb hbs).trans h.mem),h.rv,h.mv,h.len,h.byt,?_,h.sc.ke k (by have:=h.ae; omega) h.ae h.ar h.as_,⟨h.tr.len,?_,fun i hi=>?_⟩,h.rbd,h.pk,h.ae,h.ar,h.as_,hbe,hbr,hbs,by omega,by have:=hO.size; omega,?_,fun g hg2=>by have:=h.tn g hg2; omega,fun i hi g hg2=>by have:=h.en i hi g hg2; omega,(fun e=>by simp at e),h.tz⟩,k,fun i hi=>(hd i hi).new (oev i hi) hn⟩
 ·
  have e1:uC (m.vals++[x])=uC m.vals++[.int .u64 x]:=by simp [uC]
  show World.ownsRow _ _ _ _ vv' (m.vals++[x]).length (uC (m.vals++[x]));rw [e1,List.length_append];exact Yn ho fun g hg2=>hU g (by have:=(ho.lt g hg2).1; omega)
 ·
  exact Yn h.tr.row fun g hg2=>(hU g (by have:=(h.tr.row.lt g hg2).1; omega)).trans (h3 g (h.tr.row.lt g hg2).2 (fun e=>by
   obtain⟨c1,r1⟩:=Jg h.vv e;obtain⟨c2,r2⟩:=Jg h.tr.row hg2;exact Jf r1 r2 (by decide) rfl))
 ·
  exact Yn (h.tr.each i hi) fun g hg2=>(hU g (by have:=((h.tr.each i hi).lt g hg2).1; omega)).trans (h3 g ((h.tr.each i hi).lt g hg2).2 (fun e=>hd i hi g e hg2))
 ·
  intro g hg2;exact(ho.lt g hg2).2
end
theorem EP.bel {w w':World}{A B N:Nat}{G:Ji}{eb rb sb:Nat}{P:PV}{es:List Value}{a:Int}{m:Zf}(h:EP w A B N G eb rb sb P es a m)(hb:Below w.heap.size w w'):EP w' A B N G eb rb sb P es a m:=by
 have hbe:=h.be;have hbr:=h.br;have hbs:=h.bs;have hbn:=h.bn;have hnw:=h.nw;have k:Ke N eb rb sb w w':=(Dm hb).low hnw;exact⟨(hb.block eb (by omega)).trans h.ei,(hb.block rb (by omega)).trans h.rg,(hb.block sb (by omega)).trans h.mem,h.rv,h.mv,h.len,h.byt,Yn h.vv fun g hg=>hb.block g (h.vv.lt g hg).2,h.sc.ke k (by have:=h.ae; omega) h.ae h.ar h.as_,h.tr.ke k h.tn h.en hbe hbr hbs,h.rbd,h.pk,h.ae,h.ar,h.as_,hbe,hbr,hbs,hbn,Nat.le_trans hnw hb.size,h.vn,h.tn,h.en,h.vz,h.tz⟩
structure XK (w W0:World)(T:Zm)(own:Yc)(tb ob fb lb L:Nat)(av rv:Value)(pvs:List Value):Prop where
 rt:W0.heap[tb]?=some (.cells T.box 25 (0,0))
 ro:W0.heap[ob]?=some (.cells #[.int .i64 0,.slice none 0 0,.int .i64 0,.slice none 0 0,.int .i64 0,.int .i64 0] 41 (0,0))
 rf:W0.heap[fb]?=some (.cells #[.int .i64 0,.int .i64 0,.int .i64 0,.int .i64 0] 46 (0,0))
 rl:W0.heap[lb]?=some (.cells #[av,rv,.int .i64 own.size,.int .i64 own.copies] 76 (0,0))
 lay:Yo W0 L av rv own pvs
 tT:TbO W0 T
 ow:w.heap.size≤ob
 fw:w.heap.size≤fb
 bw:Below w.heap.size w W0
theorem Zzf {w:World}{p:Option Addr}{c:Nat}{ns:List Int}(h:Li w (.slice p ns.length c) ns):Rs w (.slice p ns.length c) ns:=by
 rcases h.low with⟨e,q,cap,hv⟩ | ⟨g,so,cap,hv,-,hc⟩
 ·
  exact .inl ⟨e,q,cap,hv⟩
 ·
  exact .inr ⟨g,so,cap,hv,hc⟩
theorem Yaq {w W0:World}{C:Zk}{f:Int}{ws sc:List Int}{n:Nat}{st:Int}{B N:Nat}{G:Ji}{eb rb sb:Nat}{a:Int}{M:Zf}{own:Yc}{was:Nat→Int}{tb ob fb lb L wb wc:Nat}{av rv:Value}{pvs:List Value}{ps:List Int}{nr:Nat}{s:Nat→Value}{V:World}(hX:XK w W0 G.T own tb ob fb lb L av rv pvs)(hb0:Below W0.heap.size W0 V)(hT:TK G.T)(h:ER V W0.heap.size B N G eb rb sb a M)(h1:M.kind=1→M.code=0∧M.vals=[])(hn:n=M.me.length)(hly:LyK G.T ps nr own)(hwas:∀ r,r<G.T.r.toNat→V.cell? ⟨wb,r,none⟩=some (.int .u64 (was r)))(hwb:wb<B∧wb≠eb∧wb≠rb∧wb≠sb)(hwo:Zam G.T own was n)(hres:own.res.length≤1000)
 (hM:Lc G.T C f ws sc n st=Jm G.T own was M) (hE:Lv G.T C f ws n st=0) (h5:s 5=.int .i64 (n:Int)) (h7:s 7=.pointer (some ⟨tb,0,none⟩)) (h14:s 14=.pointer (some ⟨ob,0,none⟩)) (h15:s 15=.pointer (some ⟨fb,0,none⟩)) (h16:s 16=.pointer (some ⟨lb,0,none⟩)) (h18:s 18=.pointer (some ⟨eb,0,none⟩)) (h28:s 28=.slice (some ⟨wb,0,none⟩) G.T.r.toNat wc) :
 Code.wp Tryz.prog (xT Tryz.f8 16) (bodyPost Tryz.prog Tryz.f8 (Gc w G.T C f ws sc n st)) (Fz s) V:=by
 have hbd:=h.bd;obtain⟨P0,hei,-,-,-⟩:=h.regs;have c25:V.cell? ⟨eb,25,none⟩=some (.int .i64 M.kind):=(cR hei 25);have hwz:=hb0.size;have hFIN:=fun(V':World) (N':Nat) (M':Zf) (s':Nat→Value) (h':ER V' W0.heap.size B N' G eb rb sb a M') (k':Ke B eb rb sb V V') (hM':Jm G.T own was M=M') (hl':M'.me.length=M.me.length) (g5:s' 5=.int .i64 (n:Int)) (g14:s' 14=.pointer (some ⟨ob,0,none⟩)) (g15:s' 15=.pointer (some ⟨fb,0,none⟩)) (g18:s' 18=.pointer (some ⟨eb,0,none⟩))=>show Code.wp Tryz.prog (xT Tryz.f8 17) (bodyPost Tryz.prog Tryz.f8 (Gc w G.T C f ws sc n st)) (Fz s') V' from by
  have hbV:Below W0.heap.size W0 V':=⟨k'.os.trans hb0.os,k'.tape.trans hb0.tape,k'.output.trans hb0.output,Nat.le_trans hb0.size k'.size,fun q hq=>(k'.oth q (by omega) (by omega) (by omega) (by omega)).trans (hb0.block q hq)⟩;obtain⟨P',es',hP'⟩:=h';exact Yap hP' (by omega) ((hbV.block ob (Zc hX.ro)).trans hX.ro) ((hbV.block fb (Zc hX.rf)).trans hX.rf) hX.ow (Zc hX.ro) hX.fw (Zc hX.rf) (Zb hX.bw hbV hX.bw.size) (hM.trans hM') hE g5 g14 g15 g18
 have HFIN:=Y hFIN;by_cases hk1:M.kind=1
 ·
  obtain⟨hc0,hv0⟩:=h1 hk1;rw [hk1] at c25;have hBV:∀ V',Ke B eb rb sb V V'→Below W0.heap.size W0 V':=fun V' k'=>⟨k'.os.trans hb0.os,k'.tape.trans hb0.tape,k'.output.trans hb0.output,Nat.le_trans hb0.size k'.size,fun q hq=>(k'.oth q (by omega) (by omega) (by omega) (by omega)).trans (hb0.block q hq)⟩;have HBV:=Y hBV;have HX:=Y hX;have HPO:=Y (show Jm G.T own was M=Yw G.T own was M by unfold Jm; rw [if_pos hk1]);obtain⟨rp,rc,hrv⟩:=Ze hX.lay.res;obtain⟨rn,hrn⟩:∃ k:Nat,k=G.T.r.toNat:=⟨_,rfl⟩;have hrb16:rn≤16:=by have:=hT.r16; omega
  have c19:V.cell? ⟨eb,19,none⟩=some (.slice (some ⟨rb,0,none⟩) rn rn):=by
   obtain⟨P9,hei9,hrv9,-,-⟩:=h.regs;rw [hrn,← hrv9];exact(cR hei9 19)
  have HE:=Y h;have HWAS:=Y hwas;have HLY:=Y hly;have HWO:=Y hwo;have HRN:=Y hrn;have HM0:=Y hk1;have HRV:=Y hrv;rw [Gj,h5,h7,h14,h15,h16,h18,h28,← hrn];have HML:=Y hn;clear hFIN hei h hX hb0 hM hE hwas hly h1 hwo h5 h7 h14 h15 h16 h18 h28 hBV hrn hrv hk1 hn;conv=>arg 2; whnf
  refine wp_seq_k fun K hK=>?_;have HK:=Y hK;clear hK;go_wp2_with fail
  clear c25 c19;go_loopw [300] (fun s300 V'=>∃ r:Nat,s300=.int .i64 r∧r≤rn∧ER V' W0.heap.size B N G eb rb sb a (mA G.T was M r)∧Ke B eb rb sb V V') (fun s300 _=>rn-(intOf s300).toNat)
  case atStart=>exact⟨0,rfl,by omega,by rw [show mA G.T was M 0=M by simp [mA,Zig]]; exact O HE,Ke.rf _ _ _ _ _⟩
  case round =>
   obtain⟨r,rfl,hr,her,hke⟩:=hrel;have hbW:=O HBV wr hke;by_cases hr2:r<rn
   ·
    have htb:=(hbW.block tb (Zc (O HX).rt)).trans (O HX).rt;have e1:wr.cell? ⟨tb,1,none⟩=some (.int .i64 (G.T.spN:Int)):=by rw [← hT.sp]; exact(cR htb 1)
    have e7:wr.cell? ⟨tb,7,none⟩=some (.slice G.T.ps G.T.ss.length G.T.cs):=(cR htb 7);obtain⟨P9,es9,hP9⟩:=her;have e19:wr.cell? ⟨eb,19,none⟩=some (.slice (some ⟨rb,0,none⟩) rn rn):=by rw [O HRN,← hP9.rv]; exact(cR hP9.ei 19)
    have hrr:r<G.T.r.toNat:=by rw [← O HRN]; exact hr2
    have q1:wr.cell? ⟨rb,r,none⟩=some (.int .u64 (M.rg r)):=by rw [← Zze G.T was M r]; exact(Zd hP9.rg r).trans (Kb _ _ _ hrr)
    have qw:wr.cell? ⟨wb,r,none⟩=some (.int .u64 (was r)):=(World.cell?_of_block (hke.oth wb hwb.1 hwb.2.1 hwb.2.2.1 hwb.2.2.2)).trans (O HWAS r hrr);have e25:wr.cell? ⟨eb,25,none⟩=some (.int .i64 (mA G.T was M r).kind):=(cR hP9.ei 25);have e27:wr.cell? ⟨eb,27,none⟩=some (.int .i64 (mA G.T was M r).code):=(cR hP9.ei 27);have z25:=frozen_of_row _ _ 25 _ _ hP9.ei;have z27:=frozen_of_row _ _ 27 _ _ hP9.ei;have HER:=Y (show ER wr W0.heap.size B N G eb rb sb a (mA G.T was M r) from⟨P9,es9,hP9⟩);have HKV:=Y hke;have HCT:=Y (Zcg G.T.ss (r:Int) _ (wr.drewN 1) (show Rs (wr.drewN 1) (.slice G.T.ps G.T.ss.length G.T.cs) G.T.ss from Zzf (((O HX).tT.below hbW).below (show Below wr.heap.size wr (wr.drewN 1) from Jz wr)).s) (by have:=hT.ls; omega));have HM5:=Y (show _∧_ from And.intro ((O HER).dr 1).f5 (((O HKV).dr 1).tr (Sa (Zx (Zl eb 25 (wr.drewN 1) (.int .i64 5)) (Zl eb 27 _ (.int .i64 5))))));have hr1:(r:Int)<(rn:Int):=by omega
    clear htb hP9 hke hbW hrr;go_upto_region 54 with fail
    by_cases heq:M.rg r=was r
    ·
     have hb:(M.rg r != was r)=false:=by rw [heq]; simp
     have HNX:=Y (Zue G.T was M r (by unfold okB; rw [decide_eq_true heq,Bool.true_or]));refine Zh (C:=fun V9=>∃ k,V9=wr.drewN k) (d:=23) (by kernel_rfl) ?_;change Ye _ _ _ _ _ _ _ _ _ (wr.drewN 1)
     refine vE 0 ?_;refine vE 1 ?_;refine vE 2 ?_;refine vE 3 ?_;refine vE 4 ?_;refine vE 5 ?_;refine vE 6 ?_;refine vE 7 ?_;refine vE 8 ?_;refine vE 9 ?_;refine vE 10 ?_;refine vE 11 ?_;refine vE 12 ?_;refine vS 13 ⟨1,rfl⟩ ?_;refine vS 14 ⟨1,rfl⟩ ?_;refine vS 15 ⟨1,rfl⟩ ?_;refine vS 16 ⟨1,rfl⟩ ?_;refine vS 17 ⟨1,rfl⟩ ?_;refine vS 18 ⟨1,rfl⟩ ?_;refine vS 19 ⟨1,rfl⟩ ?_;refine vS 20 ⟨1,rfl⟩ ?_;refine vS 21 ⟨1,rfl⟩ ?_;refine vS 22 ⟨1,rfl⟩ ?_;refine vO 23 fun K hK=>?_;go_simp;refine kO hK (fun hx=>by cases hx) ?_;clear hK K;refine Zi (by kernel_rfl) ?_ _;go_wp2;go_roundw
     case rel=>exact⟨r+1,by go_num,by omega,by rw [O HNX]; exact(O HER).dr _,(O HKV).dr _⟩
     case measure=>simp [intOf]; omega
    ·
     have hb:(M.rg r != was r)=true:=by simp [heq]
     by_cases hsp:r=G.T.spN
     ·
      have hb2:((r:Int)==(G.T.spN:Int))=true:=by rw [hsp]; exact beq_self_eq_true _
      have HNX:=Y (Zuf G.T was M r (by unfold okB; rw [decide_eq_false heq,decide_eq_true hsp]; rfl));clear hsp;refine Zh (C:=fun V9=>∃ k,V9=wr.drewN k) (d:=23) (by kernel_rfl) ?_;change Ye _ _ _ _ _ _ _ _ _ (wr.drewN 1)
      refine vE 0 ?_;refine vE 1 ?_;refine vE 2 ?_;refine vE 3 ?_;refine vE 4 ?_;refine vE 5 ?_;refine vE 6 ?_;refine vE 7 ?_;refine vE 8 ?_;refine vE 9 ?_;refine vE 10 ?_;refine vE 11 ?_;refine vE 12 ?_;refine vE 13 ?_;refine vE 14 ?_;refine vE 15 ?_;refine vE 16 ?_;refine vE 17 ?_;refine vS 18 ⟨1,rfl⟩ ?_;refine vS 19 ⟨1,rfl⟩ ?_;refine vS 20 ⟨1,rfl⟩ ?_;refine vS 21 ⟨1,rfl⟩ ?_;refine vE 22 ?_;refine vO 23 fun K hK=>?_;go_simp;refine kO hK (fun hx=>by cases hx) ?_;clear hK K;refine Zi (by kernel_rfl) ?_ _;go_upto_region 55 with fail
      have f25:=show(wr.drewN 1).cell? _=_ from e25
      have f27:=show(wr.drewN 1).cell? _=_ from e27
      have HM5:=Y (O HM5);go_wp2;go_roundw
      case rel=>exact⟨r+1,by go_num,by omega,by rw [O HNX]; exact(O HM5).1,(O HM5).2⟩
      case measure=>simp [intOf]; omega
     ·
      have hb2:((r:Int)==(G.T.spN:Int))=false:=by rw [beq_eq_false_iff_ne]; omega
      by_cases hin:(r:Int) ∈ G.T.ss
      ·
       have HNX:=Y (Zuf G.T was M r (by unfold okB; rw [decide_eq_false heq,decide_eq_false hsp,decide_eq_true hin]; rfl));refine Zh (C:=fun V9=>∃ k,V9=wr.drewN k) (d:=23) (by kernel_rfl) ?_;change Ye _ _ _ _ _ _ _ _ _ (wr.drewN 1)
       refine vE 0 ?_;refine vE 1 ?_;refine vE 2 ?_;refine vE 3 ?_;refine vE 4 ?_;refine vE 5 ?_;refine vE 6 ?_;refine vE 7 ?_;refine vE 8 ?_;refine vE 9 ?_;refine vE 10 ?_;refine vE 11 ?_;refine vE 12 ?_;refine vE 13 ?_;refine vE 14 ?_;refine vE 15 ?_;refine vE 16 ?_;refine vE 17 ?_;refine vE 18 ?_;refine vE 19 ?_;refine vE 20 ?_;refine vO 21 fun K hK=>?_;go_simp;refine(O HCT).mono ?_;rintro e w2 ⟨rfl,hw2⟩;subst w2;rw [decide_eq_true hin];refine kO hK (fun _=>⟨1,rfl⟩) ?_;clear hK K;change Ye _ _ _ _ _ _ _ _ _ (wr.drewN 1)
       refine vE 22 ?_;refine vO 23 fun K hK=>?_;go_simp;refine kO hK (fun hx=>by cases hx) ?_;clear hK K;refine Zi (by kernel_rfl) ?_ _;go_upto_region 55 with fail
       have f25:=show(wr.drewN 1).cell? _=_ from e25
       have f27:=show(wr.drewN 1).cell? _=_ from e27
       have HM5:=Y (O HM5);go_wp2;go_roundw
       case rel=>exact⟨r+1,by go_num,by omega,by rw [O HNX]; exact(O HM5).1,(O HM5).2⟩
       case measure=>simp [intOf]; omega
      ·
       have HNX:=Y (Zue G.T was M r (by unfold okB; rw [decide_eq_false heq,decide_eq_false hsp,decide_eq_false hin]; rfl));refine Zh (C:=fun V9=>∃ k,V9=wr.drewN k) (d:=23) (by kernel_rfl) ?_;change Ye _ _ _ _ _ _ _ _ _ (wr.drewN 1)
       refine vE 0 ?_;refine vE 1 ?_;refine vE 2 ?_;refine vE 3 ?_;refine vE 4 ?_;refine vE 5 ?_;refine vE 6 ?_;refine vE 7 ?_;refine vE 8 ?_;refine vE 9 ?_;refine vE 10 ?_;refine vE 11 ?_;refine vE 12 ?_;refine vE 13 ?_;refine vE 14 ?_;refine vE 15 ?_;refine vE 16 ?_;refine vE 17 ?_;refine vE 18 ?_;refine vE 19 ?_;refine vE 20 ?_;refine vO 21 fun K hK=>?_;go_simp;refine(O HCT).mono ?_;rintro e w2 ⟨rfl,hw2⟩;subst w2;rw [decide_eq_false hin];refine kO hK (fun _=>⟨1,rfl⟩) ?_;clear hK K;change Ye _ _ _ _ _ _ _ _ _ (wr.drewN 1)
       refine vE 22 ?_;refine vO 23 fun K hK=>?_;go_simp;refine kO hK (fun hx=>by cases hx) ?_;clear hK K;refine Zi (by kernel_rfl) ?_ _;go_wp2;go_roundw
       case rel=>exact⟨r+1,by go_num,by omega,by rw [O HNX]; exact(O HER).dr _,(O HKV).dr _⟩
       case measure=>simp [intOf]; omega
   ·
    have hrn2:r=rn:=by omega
    subst hrn2;have hck:=Zpq hT was M;rw [← O HRN] at hck;have hlb:=((O HBV wr hke).block lb (Zc (O HX).rl)).trans (O HX).rl;have e1:wr.cell? ⟨lb,1,none⟩=some (.slice rp own.res.length rc):=by rw [← O HRV]; exact(cR hlb 1)
    have hM1:M=M.endK 1 []:=Zms (O HM0) hv0;clear hlb;by_cases hkp:Ma G.T was M=true
    ·
     have hmr:mA G.T was M r=M:=by unfold mA; rw [hck,if_pos hkp]
     rw [hmr] at her;have her1:ER wr W0.heap.size B N G eb rb sb a (M.endK 1 []):=by rw [← hM1]; exact her
     have hspk:M.sp G.T=was G.T.spN:=by
      unfold Ma at hkp;simp only [Bool.and_eq_true,decide_eq_true_eq] at hkp;exact hkp.2
     have HRD:=Y (fun p (hp:PlK G.T own.size p)=>Zkv G.T M own.size p hp (by rw [hspk]; exact(O HWO).s0) (by rw [hspk,← O HML]; exact(O HWO).s1) (by rw [← O HML]; exact(O HWO).l));have HFN:=Y (show Yw G.T own was M=(Ya G.T M own.res []).1.endK 1 (Ya G.T M own.res []).2 by unfold Yw; rw [if_pos hkp]);obtain⟨Pk,esk,hPk⟩:=her1;have hvz:=hPk.vz rfl;have HPK:=Y hPk;have HKE:=Y hke;obtain⟨ti,hti,hti0,hti1,hti2⟩:=Yr Tryz.infoU64;clear her hmr hspk hkp hck hPk hke hM1;go_wp2_with fail
     clear e1;go_loopw [339] (fun s339 V'=>∃(q:Nat) (acc:List Int) (N':Nat) (P:PV) (es:List Value),s339=.int .i64 q∧q≤own.res.length∧acc.length=q∧EP V' W0.heap.size B N' G eb rb sb P es a (M.endK 1 acc)∧(∀ k,k<M.tr.length→Dj P.vv (es.getD k .nilIface))∧Ya G.T M own.res []=Ya G.T M (own.res.drop q) acc∧Ke B eb rb sb V V') (fun s339 _=>own.res.length-(intOf s339).toNat)
     case atStart=>exact⟨0,[],N,Pk,esk,rfl,by omega,rfl,O HPK,(fun k _=>by rw [hvz]; exact Zdd _),rfl,O HKE⟩
     case round =>
      obtain⟨q,acc,N',P,es,rfl,hq,hacc,hP,hdj,hco,hke2⟩:=hrel;have HACC:=Y hacc;have hal:acc.length≤1000:=by omega
      clear hacc;by_cases hq2:q<own.res.length
      ·
       obtain⟨gp,gc,f0,hLg,d0,d1⟩:=Gv (Yo.belx (O HX).lay (O HBV wr hke2)).res hq2;rw [O HRV] at f0;injection f0 with f1 f2 f3;subst f1;have hpk:=(O HLY).rs _ (Je hq2);have hdr:own.res.drop q=own.res.getD q (0,0) :: own.res.drop (q+1):=by
        rw [List.drop_eq_getElem_cons hq2];simp [List.getD,hq2]
       rw [hdr] at hco;generalize own.res.getD q (0,0)=p at d0 d1 hpk hco;obtain⟨pa,pb⟩:=p;simp only at d0 d1;obtain⟨v,hv1,hv2⟩:=O HRD _ hpk;have hpa:pa=-1∨0≤pa∧pa<G.T.r:=by
        rcases hpk with h | h <;> simp only at h <;> omega
       have HNX:=Y (show Ya G.T M own.res []=Ya G.T M (own.res.drop (q+1)) (acc++[v]) by rw [hco,Ya,hv1]; rfl);obtain⟨ra,hba,hza⟩:=Zs wr (.cells #[.int .i64 pa,.int .i64 pb] 91 (0,0));have g0:=((cR ra 0):_=some (Value.int .i64 pa));have g1:=((cR ra 1):_=some (Value.int .i64 pb));have HPA:=Y (hP.bel hba);have HKA:=Y (hke2.tr ((Dm (a:=eb) (b:=rb) (c:=sb) hba).low (Nat.le_trans hP.bn hP.nw)));have HDJ:=Y hdj;have HR2:=Y (show Ly ((M.endK 1 acc).read G.T (pa,pb)).2=.tuple #[.int .u64 v,.bool true] by rw [hv2 1 acc]; rfl);clear ra hba hza hP hke2 hdj hco hpk hv1 hv2 f2 f3 hdr;go_upto_region 60 with fail
       clear d0 d1;generalize World.alloc wr _=V2 at HPA HKA g0 g1 ⊢;go_wp2_with fail
       refine(Zkg ⟨_,_,O HPA⟩ (show(1:Int)≠0 by decide) hT pa pb hpa).mono ?_;rintro e w2 ⟨rfl,hb2⟩;rw [O HR2];have hP2:=(O HPA).bel hb2;have HK2:=Y ((O HKA).tr ((Dm (a:=eb) (b:=rb) (c:=sb) hb2).low (Nat.le_trans (O HPA).bn (O HPA).nw)));obtain⟨vp,vc,hvv⟩:=Ze hP2.vv;have hvl:(M.endK 1 acc).vals.length=acc.length:=rfl;rw [hvl] at hvv;have e25:w2.cell? ⟨eb,25,none⟩=some (.int .i64 1):=(cR hP2.ei 25);have e26:w2.cell? ⟨eb,26,none⟩=some (.slice vp acc.length vc):=by rw [← hvv]; exact(cR hP2.ei 26)
       have HOV:=Y (show w2.ownsRow B 62 1 (.slice vp acc.length vc) acc.length (uC acc) by rw [← hvv]; exact hP2.vv);have HP2:=Y hP2;have HVV:=Y hvv;have hBw:B≤w2.heap.size:=Nat.le_trans hP2.bn hP2.nw;clear hb2 hP2 hvv hvl g0 g1 HPA HKA;go_wp2_with (at_builtin; refine Zdc rfl _ _ 33 rfl B 62 ti _ 1 8 Tryz.underlying33 hti hti0 hti1 hti2 rfl (by decide) _ _ _ rfl (World.ownsRow.alloc (O HOV) _) ⟨w2.heap.size,0,none⟩ 1 1 [.int .u64 v] rfl rfl (by intro j u hj; match j,hj with | 0,hj=>(simp at hj; subst hj; exact(cR (Zs _ _).1 0))) (by intro u hu; simp at hu; subst hu; rfl) ?c3 ?c4 ?c5 ?_)
       case c3=>unfold maxLen; omega
       case c4=>omega
       case c5=>first | omega | (simp; omega)
       intro v7 w7 hown7 hgr7 hnew7;obtain⟨vp7,vc7,rfl⟩:=Ze hown7;obtain⟨rq,hbq,hzq⟩:=Zs w2 (.cells #[.int .u64 v] 62 (0,0));obtain⟨q1,q2,q3,q4⟩:=(O HP2).vapp (x:=v) hbq (by rw [O HVV]; exact hgr7) (by exact hown7) (by rw [O HVV,hzq]; exact hnew7) (O HDJ);have q5:=q1.trans (O HP2).ei;have z26:=frozen_of_row _ _ 26 _ _ q5;have d26:w7.cell? ⟨eb,26,none⟩=some (.slice vp acc.length vc):=by rw [← O HVV]; exact(cR q5 26)
       have HQ2:=Y q2;have HQ3:=Y ((O HK2).tr q3);have HQ4:=Y q4;clear q1 q2 q3 q4 q5 rq hbq hzq hown7 hgr7 hnew7 e25 e26;go_wp2;go_roundw
       case rel=>exact⟨q+1,acc++[v],_,_,_,by go_num,by omega,by simp [O HACC],O HQ2,O HQ4,O HNX,O HQ3⟩
       case measure=>simp [intOf]; omega
      ·
       have hqn:q=own.res.length:=by omega
       subst hqn;rw [List.drop_length,Ya] at hco;have HCO:=Y hco;have HP9:=Y hP;have HK9:=Y hke2;clear hP hdj hco hke2;go_wp2_with fail
       refine O HK _ _ ?_;refine Yd (Q:=fun a w=>Code.wp Tryz.prog (xT Tryz.f8 17) _ a w) _ rfl ?_;exact O HFIN _ _ _ _ ⟨_,_,O HP9⟩ (O HK9) (by rw [O HPO,O HFN,O HCO]) rfl rfl rfl rfl rfl
    ·
     have hmr:mA G.T was M r=mF5 M:=by unfold mA; rw [hck,if_neg hkp]
     rw [hmr] at her;have HFN:=Y (show Yw G.T own was M=mF5 M by
      unfold Yw;rw [if_neg hkp,hM1];rfl)
     have HER:=Y her;have HKE:=Y hke;clear her hmr hkp hck hke hM1;go_wp2_with fail
     clear e1;go_loopw [339] (fun s339 V'=>∃ q:Nat,s339=.int .i64 q∧q≤own.res.length∧ER V' W0.heap.size B N G eb rb sb a (mF5 M)∧Ke B eb rb sb V V') (fun s339 _=>own.res.length-(intOf s339).toNat)
     case atStart=>exact⟨0,rfl,by omega,O HER,O HKE⟩
     case round =>
      obtain⟨q,rfl,hq,her,hke2⟩:=hrel;by_cases hq2:q<own.res.length
      ·
       obtain⟨gp,gc,f0,hLg,d0,d1⟩:=Gv (Yo.belx (O HX).lay (O HBV wr hke2)).res hq2;rw [O HRV] at f0;injection f0 with f1 f2 f3;subst f1;have hpk:=(O HLY).rs _ (Je hq2);generalize own.res.getD q (0,0)=p at d0 d1 hpk;obtain⟨pa,pb⟩:=p;simp only at d0 d1;have hpa:pa=-1∨0≤pa∧pa<G.T.r:=by
        rcases hpk with h | h <;> simp only at h <;> omega
       obtain⟨ra,hba,hza⟩:=Zs wr (.cells #[.int .i64 pa,.int .i64 pb] 91 (0,0));have g0:=((cR ra 0):_=some (Value.int .i64 pa));have g1:=((cR ra 1):_=some (Value.int .i64 pb));have HPA:=Y (her.bel hba);have HKA:=Y (hke2.tr ((Dm (a:=eb) (b:=rb) (c:=sb) hba).low her.bd.2.2.2.2.2.2));clear ra hba hza her hke2 hpk f2 f3;go_upto_region 60 with fail
       clear d0 d1;generalize World.alloc wr _=V2 at HPA HKA g0 g1 ⊢;go_wp2_with fail
       refine(Zkg (O HPA) (show(5:Int)≠0 by decide) hT pa pb hpa).mono ?_;rintro e w2 ⟨rfl,hb2⟩;have h2:=(O HPA).bel hb2;obtain⟨P2,hei2,-,-,-⟩:=h2.regs;have e25:w2.cell? ⟨eb,25,none⟩=some (.int .i64 5):=(cR hei2 25);have HE2:=Y h2;have HK2:=Y ((O HKA).tr ((Dm (a:=eb) (b:=rb) (c:=sb) hb2).low (O HPA).bd.2.2.2.2.2.2));generalize Zf.read G.T (mF5 M) (pa,pb)=o;obtain⟨o1,o2⟩:=o;clear hb2 h2 hei2 g0 g1 HPA HKA;unfold Ly;cases o2 with
       | none =>
        simp only [Option.getD_none,Option.isSome_none];go_wp2;go_roundw
        case rel=>exact⟨q+1,by go_num,by omega,O HE2,O HK2⟩
        case measure=>simp [intOf]; omega
       | some v =>
        simp only [Option.getD_some,Option.isSome_some];go_wp2;go_roundw
        case rel=>exact⟨q+1,by go_num,by omega,O HE2,O HK2⟩
        case measure=>simp [intOf]; omega
      ·
       have HP9:=Y her;have HK9:=Y hke2;clear her hke2;go_wp2_with fail
       refine O HK _ _ ?_;refine Yd (Q:=fun a w=>Code.wp Tryz.prog (xT Tryz.f8 17) _ a w) _ rfl ?_;exact O HFIN _ _ _ _ (O HP9) (O HK9) (by rw [O HPO,O HFN]) rfl rfl rfl rfl rfl
 ·
  have hkb:(M.kind==(1:Int))=false:=by rw [beq_eq_false_iff_ne]; exact hk1
  have HPO:=Y (show Jm G.T own was M=M by unfold Jm; rw [if_neg hk1]);have HE:=Y h;rw [Gj,h5,h7,h14,h15,h16,h18,h28];clear hFIN hei h hX hb0 hM hE hwas hly hk1 h1 hwo h5 h7 h14 h15 h16 h18 h28;conv=>arg 2; whnf
  refine wp_seq_k fun K hK=>?_;have HK:=Y hK;clear hK;go_wp2_with fail
  refine O HK _ _ ?_;refine Yd (Q:=fun a w=>Code.wp Tryz.prog (xT Tryz.f8 17) _ a w) _ rfl ?_;exact O HFIN _ _ _ _ (O HE) (Ke.rf _ _ _ _ _) (O HPO) rfl rfl rfl rfl rfl
end Go.Proofs.YtnlcfnjeagmemaaGreatDoor
