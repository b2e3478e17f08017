import Derived.Test.YtkenknfgeoecbaaGreatDoorJ3
import Derived.Test.YtkenknfgeoecbaaGreatDoorJ14
namespace Go.Proofs.YtkenknfgeoecbaaGreatDoor
open Go.RowKit
set_option maxHeartbeats 4000000
set_option maxRecDepth 100000
theorem LS.ones {w:World}{v:Value}{n:Nat}{B:Nat->Value}(h:LS 1 w v n (fun k=>#[B k])):∃ p cap,v=.slice p n cap∧n<=cap∧n<9223372036854775808∧(0<n->∃ sb so,p=some ⟨sb,so,none⟩∧∀ k,k<n->w.cell? ⟨sb,so+k,none⟩=some (B k)):=by obtain⟨p,cap,h1,h2,h3,h4⟩:=h;refine⟨p,cap,h1,h2,h3,fun h0=>?_⟩;obtain⟨sb,so,e,-,hc⟩:=h4 h0;refine⟨sb,so,e,fun k hk=>?_⟩;have:=hc k hk 0 _ rfl;rwa [Nat.mul_one,Nat.add_zero] at this
theorem Gw {w:World}{T:Nat}{cs:Array Value}{t:TypeId}{fr:Nat×Nat}(h:w.heap[T]?=some (.cells cs t fr))(j:Nat)(X:Obj):(w.alloc X).cell? ⟨T,j,none⟩=cs[j]?:=by
 have hlt:T<w.heap.size:=by
  rcases Nat.lt_or_ge T w.heap.size with y | y
  ·exact y
  ·simp [Array.getElem?_eq_none y] at h
 exact(World.cell?_of_block (a:=⟨T,j,none⟩) ((al0 w X).2.1.block T hlt)).trans (Zl h j)
theorem Li.rs {w:World}{v:Value}{ns:List Int}(h:Li w v ns):Rs w v ns:=by
 obtain⟨p,cap,h1,h2,h3,h4⟩:=h;rcases Nat.eq_zero_or_pos ns.length with h0 | h0
 ·exact Or.inl ⟨List.eq_nil_of_length_eq_zero h0,p,cap,by rw [h1,h0]⟩
 ·obtain⟨sb,so,e,hc⟩:=h4 h0;exact Or.inr ⟨sb,so,cap,by rw [h1,e],hc⟩
theorem Zib (v:Value)(bs:List (List Yb))(B:Nat->Value)(w:World)(h:LS 1 w v bs.length (fun k=>#[B k]))(hB:∀ k,k<bs.length->∃ q c,B k=.slice q (bs.getD k []).length c∧(bs.getD k []).length<9223372036854775808):Calls Tryz.prog 130 #[v] w fun e w'=>e=.returned (.bool (Ul bs))∧w'=w:=by
 obtain⟨p,cap,rfl,hcap,hlt,hc⟩:=h.ones;have HC:=O hc;have HB:=O hB;clear hc h hB;go_enter Tryz.func130,Tryz.ntmps130
 go_wp2_with fail
 go_loopw [7] (fun j w'=>∃ k:Nat,j=.int .i64 k∧k<=bs.length∧w'=w∧∀ q,q<k->Xl ((bs.getD q []).length) 1 24=true) (fun j _=>bs.length-(intOf j).toNat)
 case atStart=>exact⟨0,rfl,by omega,rfl,fun q hq=>by omega⟩
 case round =>
  obtain⟨k,rfl,hk,rfl,hno⟩:=hrel;have HN:=O hno;clear hno;by_cases hk2:k<bs.length
  ·obtain⟨sb,so,rfl,hcc⟩:=J HC (by omega);have c:=hcc k hk2;obtain⟨q,cp,hq,hql⟩:=J HB k hk2;rw [hq] at c;have HW:=O (Yo ((bs.getD k []).length) 1 24 wr);have HBAD:=O (fun hb:Xl ((bs.getD k []).length) 1 24=false=>show Ul bs=false from Jm hk2 hb);have HNX:=O (fun hb:Xl ((bs.getD k []).length) 1 24=true=>Xp (q:=fun q=>Xl ((bs.getD q []).length) 1 24) (J HN) hb);clear hcc HC hq HB;generalize Xl ((bs.getD k []).length) 1 24=yes at HW HBAD HNX;generalize (bs.getD k []).length=y at c HW hql;go_wp2_with fail
   refine(J HW).mono ?_;rintro e w2 ⟨rfl,h2⟩;subst w2;cases yes with
   | false=>have hx:=O (J HBAD rfl);go_wp2;go_ret;exact⟨by rw [J hx]; rfl,rfl⟩
   | true =>
    have hx:=O (J HNX rfl);go_wp2;go_roundw
    case rel=>exact⟨k+1,by go_num,by omega,trivial,J hx⟩
    case measure=>simp [intOf]; omega
  ·have HT:=O (show Ul bs=true from Gl (fun q hq=>J HN q (by omega)));obtain rfl:k=bs.length:=by omega
   go_wp2;go_ret;exact⟨by rw [J HT]; rfl,rfl⟩
theorem Zic (f:Zj)(pv hv sv bv:Value)(w:World)(hp:LS 2 w pv f.params.length (fun k=>La (f.params.getD k (0,0))))(hh:Li w hv f.homes)(hs:Li w sv f.slots):Calls Tryz.prog 131 #[.agg #[pv,.int .i64 f.results,hv,sv,bv]] w fun e w'=>e=.returned (.bool (Um f))∧Below w.heap.size w w':=by
 have hx:=al0 w (.cells #[pv,.int .i64 f.results,hv,sv,bv] 71 (0,0));have HH:=O (hh.below hx.2.1);have HS:=O (hs.below hx.2.1);obtain⟨p,cap,rfl,hcap,hlt,hc⟩:=(hp.below hx.2.1).pairs;obtain⟨ph,ch,rfl⟩:=hh.shape;obtain⟨ps,cs,rfl⟩:=hs.shape;have HC:=O hc;have HX:=O hx;clear hc hx hp hh hs;go_enter Tryz.func131,Tryz.ntmps131
 go_wp2_with fail
 generalize World.alloc w _=W at HH HS HC HX ⊢;go_loopw [10] (fun j w'=>∃ k:Nat,j=.int .i64 k∧k<=f.params.length∧Below W.heap.size W w'∧∀ q,q<k->Ck f q=true) (fun j _=>f.params.length-(intOf j).toNat)
 case atStart=>exact⟨0,rfl,by omega,Below.refl _ _,fun q hq=>by omega⟩
 case round =>
  obtain⟨k,rfl,hk,hbw,hno⟩:=hrel;have HN:=O hno;clear hno;by_cases hk2:k<f.params.length
  ·obtain⟨sb,so,rfl,hcc⟩:=J HC (by omega);have hWs:=(J HX).2.2;have hws:=hbw.size;have hsb:sb<W.heap.size:=World.block_lt_of_cell? W _ (hcc k hk2).1;have c1:=(hbw.cell (p:=⟨sb,so+k*2,none⟩) hsb).trans (hcc k hk2).1;have c2:=(hbw.cell (p:=⟨sb,so+k*2+1,none⟩) hsb).trans (hcc k hk2).2;have hrow:=(hbw.block w.heap.size (by omega)).trans (J HX).1;have HROW:=O hrow;have r0:=fun X:Obj=>(Gw hrow 0 X).trans rfl;have r1:=fun X:Obj=>(Gw hrow 1 X).trans rfl;have r2:=fun X:Obj=>(Gw hrow 2 X).trans rfl;have r3:=fun X:Obj=>(Gw hrow 3 X).trans rfl;have r4:=fun X:Obj=>(Gw hrow 4 X).trans rfl;have HCC:=O hcc;have HBW:=O hbw;clear hcc hrow;generalize hxy:f.params.getD k (0,0)=xy at c1 c2;have HXY:=O hxy;clear hxy;obtain⟨x,y⟩:=xy;simp only at c1 c2;go_wp2_with fail
   have hy:=al0 wr (.cells #[.int .i64 x,.int .i64 y] 107 (0,0));have hbY:Below W.heap.size W (wr.alloc (.cells #[.int .i64 x,.int .i64 y] 107 (0,0))):=Zc hbw hy.2.1 hws;refine(Zia f _ _ _ _ _ (x,y) _ ((J HH).below hbY) ((J HS).below hbY)).mono ?_;rintro e w2 ⟨rfl,hb2⟩;have hb2s:=hb2.size;have hrx:=(hb2.block wr.heap.size (by omega)).trans hy.1;have hrf:=(hb2.block w.heap.size (by omega)).trans ((hy.2.1.block w.heap.size (by omega)).trans (J HROW));have hys:=hy.2.2;have hbZ:Below W.heap.size W w2:=Zc hbY hb2 (by omega);have HBZ:=O hbZ;have HRX:=O hrx;have HB2:=O hb2;clear hb2 hy hbY r0 r1 r2 r3 r4 c1 c2 hbw hbZ;have f0:=(cR hrf 0);clear hrf hrx;cases hsp:Ll f (x,y) with
   | false=>have HT:=O (show Um f=false from Jm hk2 (by unfold Ck; rw [J HXY,hsp]; rfl));clear hsp;go_wp2;go_ret;exact⟨by rw [J HT]; rfl,Zc (J HX).2.1 (J HBZ) (by omega)⟩
   | true =>
    have HSP:=O hsp;clear hsp;go_wp2_with fail
    clear f0;generalize hg:wr.heap.size=Tx at HRX hys hws ⊢;have hTx:Tx<w2.heap.size:=by omega
    clear hg hb2s hys;go_loopw [24] (fun j w'=>∃ m:Nat,j=.int .i64 m∧m<=k∧Below w2.heap.size w2 w'∧∀ q,q<m->(!Zcm (x,y) (f.params.getD q (0,0)))=true) (fun j _=>k-(intOf j).toNat)
    case atStart=>exact⟨0,rfl,by omega,Below.refl _ _,fun q hq=>by omega⟩
    case round =>
     obtain⟨m,rfl,hm,hbm,hmo⟩:=hrel;have HM:=O hmo;clear hmo;have hms:=hbm.size;by_cases hm2:m<k
     ·have hq:=(J HCC) m (by omega);have hwm:Below W.heap.size W wr:=Zc (J HBZ) hbm (by have:=(J HBZ).size; omega);have c1:=(hwm.cell (p:=⟨sb,so+m*2,none⟩) hsb).trans hq.1;have c2:=(hwm.cell (p:=⟨sb,so+m*2+1,none⟩) hsb).trans hq.2;have hrow:=(hbm.block Tx hTx).trans (J HRX);have r0:=fun X:Obj=>(Gw hrow 0 X).trans rfl;have r1:=fun X:Obj=>(Gw hrow 1 X).trans rfl;have HBM:=O hbm;clear hrow hq hwm hbm;generalize hxy:f.params.getD m (0,0)=xy at c1 c2;have HXZ:=O hxy;clear hxy;obtain⟨x2,y2⟩:=xy;simp only at c1 c2;have hme:Zcm (x,y) (x2,y2)=(decide (y=y2)&&(decide (x=0)==decide (x2=0))):=rfl;have HBAD:=O (fun hb:(decide (y=y2)&&(decide (x=0)==decide (x2=0)))=true=>show Um f=false from Jm hk2 (by unfold Ck; rw [J HXY]; simp only [Bool.and_eq_false_iff]; exact Or.inr (Jm hm2 (by rw [J HXZ,hme,hb]; rfl))));have HNX:=O (fun hb:(decide (y=y2)&&(decide (x=0)==decide (x2=0)))=false=>Xp (q:=fun q=>!Zcm (x,y) (f.params.getD q (0,0))) (J HM) (by show(!Zcm (x,y) (f.params.getD m (0,0)))=true; rw [J HXZ,hme,hb]; rfl));have HBA:=O (Zc (J HBM) (al0 wr (.cells #[.int .i64 x2,.int .i64 y2] 107 (0,0))).2.1 hms);clear hme;by_cases e1:y=y2
      ·subst e1;by_cases e2:x=0
       ·by_cases e3:x2=0
        ·subst e2 e3;have hx:=O (J HBAD (by simp));go_wp2;go_ret;exact⟨by rw [J hx]; rfl,Zc (J HX).2.1 (Zc (J HBZ) (J HBA) (by have:=(J HBZ).size; omega)) (by omega)⟩
        ·subst e2;have z3:(x2==0)=false:=by simpa using e3
         have hx:=O (J HNX (by simp [e3]));go_wp2;go_roundw
         case rel=>exact⟨m+1,by go_num,by omega,J HBA,J hx⟩
         case measure=>simp [intOf]; omega
       ·have z2:(x==0)=false:=by simpa using e2
        by_cases e3:x2=0
        ·subst e3;have hx:=O (J HNX (by simp [e2]));go_wp2;go_roundw
         case rel=>exact⟨m+1,by go_num,by omega,J HBA,J hx⟩
         case measure=>simp [intOf]; omega
        ·have z3:(x2==0)=false:=by simpa using e3
         have hx:=O (J HBAD (by simp [e2,e3]));go_wp2;go_ret;exact⟨by rw [J hx]; rfl,Zc (J HX).2.1 (Zc (J HBZ) (J HBA) (by have:=(J HBZ).size; omega)) (by omega)⟩
      ·have z1:(y==y2)=false:=by simpa using e1
       have hx:=O (J HNX (by simp [e1]));go_wp2;go_roundw
       case rel=>exact⟨m+1,by go_num,by omega,J HBA,J hx⟩
       case measure=>simp [intOf]; omega
     ·obtain rfl:m=k:=by omega
      have hx:=O (Xp (q:=Ck f) (J HN) (by unfold Ck; rw [J HXY,J HSP,Gl (J HM)]; rfl));have HBM:=O (Zc (J HBZ) hbm (by have:=(J HBZ).size; omega));clear hbm;go_wp2;go_roundw
      case rel=>exact⟨m+1,by go_num,by omega,J HBM,J hx⟩
      case measure=>simp [intOf]; omega
  ·have HT:=O (show Um f=true from Gl (fun q hq=>J HN q (by omega)));obtain rfl:k=f.params.length:=by omega
   have HBW:=O hbw;have hWs:=(J HX).2.2;clear hbw;go_wp2;go_ret;exact⟨by rw [J HT]; rfl,Zc (J HX).2.1 (J HBW) (by omega)⟩
set_option maxHeartbeats 4000000
set_option maxRecDepth 100000
theorem Zky (r sp lk t0 t1:Int)(va vr vs:Value)(al sh by_:Int)(pr:Bool)(v:Value)(hs:List Int)(w:World)(hr:4<=r∧r<=16)(h:Li w v hs)(hn:hs.length<=1000000):Calls Tryz.prog 128 #[.agg (Zu r sp lk t0 t1 va vr vs al sh by_ pr),v] w fun e w'=>e=.returned (.bool (Cj r (Yp sp lk t0 t1) hs))∧Below w.heap.size w w':=by
 have hx:=al0 w (.cells (Zu r sp lk t0 t1 va vr vs al sh by_ pr) 25 (0,0));have HL:=O (h.below hx.2.1);obtain⟨p,cap,rfl,hcap,hlt,-⟩:=h;have HX:=O hx;have HRES:=O (fun V=>Zeg r sp lk t0 t1 va vr vs al sh by_ pr V);have hr1:=hr.1;have hr2:=hr.2;clear hx hr;unfold Zu at HX HL HRES ⊢;go_enter Tryz.func128,Tryz.ntmps128
 go_wp2_with fail
 generalize World.alloc w _=W at HL HX ⊢;refine(J HRES W).mono ?_;rintro e w2 ⟨vo,rfl,hro,hco,hb2⟩;obtain⟨po,co,rfl⟩:=hro.shape;have HRO:=O hro;have HB2:=O hb2;have HW2:=O (Zc (J HX).2.1 hb2 (by have:=(J HX).2.2; omega));have HL2:=O ((J HL).below hb2);have hrow:=(hb2.block w.heap.size (by have:=(J HX).2.2; omega)).trans (J HX).1;have r0:=(cR hrow 0);have hol:(Yp sp lk t0 t1).length<=1000000:=by unfold Yp; split <;> simp
 clear hro hco hb2 hrow;generalize hO:Yp sp lk t0 t1=own at HRO hol;have HOW:=O hO;clear hO;go_wp2_with fail
 go_loopw [12] (fun j w'=>∃ k:Nat,j=.int .i64 k∧k<=hs.length∧w'=w2∧∀ q,q<k->Zfg r own hs q=true) (fun j _=>hs.length-(intOf j).toNat)
 case atStart=>exact⟨0,rfl,by omega,rfl,fun q hq=>by omega⟩
 case round =>
  obtain⟨k,rfl,hk,rfl,hno⟩:=hrel;have HN:=O hno;clear hno;by_cases hk2:k<hs.length
  ·have HCT:=O (fun x=>Mb (hs.take k) x (.slice p k cap) wr ((J HL2).take k (by omega)).rs (by simp; omega));have HCO:=O (fun x=>Mb own x (.slice po own.length co) wr (J HRO) hol);obtain⟨p',cap',he,-,-,hcc⟩:=J HL2;injection he with e1 e2 e3;subst e1 e3;obtain⟨sb,so,rfl,hc⟩:=hcc (by omega);have c:=hc k hk2;have hho:Zfg r own hs k=(decide (hs.getD k 0=-1)||(Xl (hs.getD k 0) 0 (r-1)&&(!decide (hs.getD k 0 ∈ own)&&!decide (hs.getD k 0 ∈ hs.take k)))):=rfl;have HHO:=O hho;have HBAD:=O (fun hb:Zfg r own hs k=false=>show Cj r own hs=false from Jm hk2 hb);have HNX:=O (fun hb:Zfg r own hs k=true=>Xp (J HN) hb);clear hho hc hcc e2;generalize Zfg r own hs k=yes at HHO HBAD HNX;generalize hs.getD k 0=y at c HHO;by_cases hm:y=-1
   ·subst hm;have hx:=O (J HNX (by rw [J HHO]; rfl));go_wp2;go_roundw
    case rel=>exact⟨k+1,by go_num,by omega,trivial,J hx⟩
    case measure=>simp [intOf]; omega
   ·have z:(y==-1)=false:=by simpa using hm
    have HH2:=O (show yes=(Xl y 0 (r-1)&&(!decide (y ∈ own)&&!decide (y ∈ hs.take k))) by rw [J HHO]; simp [hm]);clear HHO hm;go_wp2_with fail
    refine(Yo y 0 (r-1) _).mono ?_;rintro e w3 ⟨rfl,h3⟩;subst w3;cases hi:Xl y 0 (r-1) with
    | false=>have hx:=O (J HBAD (by rw [J HH2,hi]; rfl));clear hi;go_wp2;go_ret;exact⟨by rw [J HOW,J hx]; rfl,J HW2⟩
    | true =>
     have HI:=O hi;clear hi;go_wp2_with fail
     refine(J HCO y).mono ?_;rintro e w3 ⟨rfl,h3⟩;subst w3;cases hi:decide (y ∈ own) with
     | true=>have hx:=O (J HBAD (by rw [J HH2,hi]; simp));clear hi;go_wp2;go_ret;exact⟨by rw [J HOW,J hx]; rfl,J HW2⟩
     | false =>
      have HI2:=O hi;clear hi;go_wp2_with fail
      refine(J HCT y).mono ?_;rintro e w3 ⟨rfl,h3⟩;subst w3;cases hi:decide (y ∈ hs.take k) with
      | true=>have hx:=O (J HBAD (by rw [J HH2,hi]; simp));clear hi;go_wp2;go_ret;exact⟨by rw [J HOW,J hx]; rfl,J HW2⟩
      | false =>
       have hx:=O (J HNX (by rw [J HH2,hi,J HI2,J HI]; rfl));clear hi;go_wp2;go_roundw
       case rel=>exact⟨k+1,by go_num,by omega,trivial,J hx⟩
       case measure=>simp [intOf]; omega
  ·have HT:=O (show Cj r own hs=true from Gl (fun q hq=>J HN q (by omega)));obtain rfl:k=hs.length:=by omega
   go_wp2;go_ret;exact⟨by rw [J HOW,J HT]; rfl,J HW2⟩
set_option maxHeartbeats 4000000
set_option maxRecDepth 100000
def iC (ns:List Int):List Value:=ns.map fun n=>.int .i64 n
def wTk (xs:List (Int×Int))(k:Nat):List Value:=iC ((xs.take k).map (·.1))
theorem Zck (xs:List (Int×Int))(k:Nat)(hk:k<xs.length):wTk xs (k+1)=wTk xs k++[.int .i64 (xs.getD k (0,0)).1]:=by unfold wTk;rw [List.take_succ_eq_append_getElem hk,List.map_append];simp [iC,List.getD,hk]
theorem Gx {P:Program}{fn:Func}{q:Tmp}{uy:TypeId}(h:fn.results=#[.cell q uy])(tmps:Array Value)(w:World)(g':Nat)(t':TypeId)(cs':Array Value)(fr':Nat×Nat)(d':TypeDesc)
 (hp':tmps.getD q undef=.pointer (some ⟨g',0,none⟩)) (hg':w.heap[g']?=some (.cells cs' t' fr')) (hu':P.underlying uy=some d') (hd':(match d' with | .struct _ | .array _ _=>true | _=>false)=true) (hi':(P.info? uy).map (·.size)=some cs'.size) :
 (results fn tmps).run P w=.ok (.agg cs') w:=by
 have e2:tmps[q]?.getD undef=.pointer (some ⟨g',0,none⟩):=by simpa using hp'
 simp [results,h,e2,asAddr,run_loadVar_row w g' t' uy cs' fr' d' hg' hu' hd' hi']
theorem Tryz.infoInt:(Tryz.prog.info? 3).map (fun i=>(i.zero,i.size,i.bytes))=some (some (.int .i64 0),1,8):=by kernel_rfl
theorem Tryz.infSigK:(Tryz.prog.info? 43).map (·.size)=some 2:=by kernel_rfl
theorem Gy {P:Program}{t:TypeId}{z:Value}{n b:Nat}(h:(P.info? t).map (fun i=>(i.zero,i.size,i.bytes))=some (some z,n,b)):∃ i,P.info? t=some i∧i.zero=some z∧i.size=n∧i.bytes=b:=by
 cases hi:P.info? t with
 | none=>simp [hi] at h
 | some i=>simp [hi] at h; exact⟨i,rfl,h.1,h.2.1,h.2.2⟩
theorem Li.of_own {w:World}{base:Nat}{v:Value}{ns:List Int}(h:w.ownsRow base 3 1 v ns.length (iC ns))(hn:ns.length<9223372036854775808):Li w v ns:=by
 rcases h.2 with⟨e,e0⟩ | ⟨g,cap,cur,e,-,-,hc,-⟩
 ·exact⟨none,0,by rw [e,e0],by omega,hn,fun h0=>by omega⟩
 ·refine⟨_,cap,e,hc,hn,fun h0=>⟨g,0,rfl,fun i hi=>?_⟩⟩;subst e;have:=h.cellAt i (by omega);simp only [Nat.zero_add] at this ⊢;rw [this];simp [iC,hi]
theorem Ke {w w':World}{base n size:Nat}{e:TypeId}{v:Value}{xs:List Value}(h:w.ownsRow base e size v n xs)(hk:∀ g,base<=g->w'.heap[g]?=w.heap[g]?):w'.ownsRow base e size v n xs:=by
 obtain⟨h1,h2 | ⟨g,cap,cur,e1,e2,e3,e4⟩⟩:=h
 ·exact⟨h1,Or.inl h2⟩
 ·exact⟨h1,Or.inr ⟨g,cap,cur,e1,e2,(hk g e2).trans e3,e4⟩⟩
theorem Zg {a w:World}{n T:Nat}{cs:Array Value}(h:Below n a w)(hT:n<=T):Below n a (w.setRow T cs):=⟨h.os,h.tape,h.output,by have:=h.size; simpa [World.setRow] using this,fun k hk=>(setRow_other w T k cs (by omega)).trans (h.block k hk)⟩
theorem Kf {w:World}{base n:Nat}{v:Value}{xs:List Value}(h:w.ownsRow base 3 1 v (n+1) xs):∃ g cap,v=.slice (some ⟨g,0,none⟩) (n+1) cap:=by
 rcases h.2 with⟨_,e0⟩ | ⟨g,cap,cur,e,-⟩
 ·omega
 ·exact⟨g,cap,e⟩
theorem Zkz (f:Zj)(pv b c d:Value)(w:World)(hp:LS 2 w pv f.params.length (fun k=>La (f.params.getD k (0,0))))(hn:f.params.length<=8796093022208) :
 Calls Tryz.prog 85 #[.agg #[pv,.int .i64 f.results,b,c,d]] w fun e w'=>∃ v,e=.returned (.agg #[v,.int .i64 f.results])∧Li w' v (Jw f).1∧Below w.heap.size w w':=by
 obtain⟨ti,hti,hz0,hz1,hz2⟩:=Gy Tryz.infoInt;have hx:=al0 w (.cells #[pv,.int .i64 f.results,b,c,d] 71 (0,0));have hp1:=hp.below hx.2.1;have hx2:=al0 (w.alloc (.cells #[pv,.int .i64 f.results,b,c,d] 71 (0,0))) (.cells #[.slice none 0 0,.int .i64 0] 43 (0,0));have hp2:=hp1.below hx2.2.1;have hx3:=al0 ((w.alloc (.cells #[pv,.int .i64 f.results,b,c,d] 71 (0,0))).alloc (.cells #[.slice none 0 0,.int .i64 0] 43 (0,0))) (.cells #[.slice none 0 0,.int .i64 f.results] 43 (0,0));have hp3:=hp2.below hx3.2.1;have hs1:=hx.2.2;have hs2:=hx2.2.2;have hs3:=hx3.2.2;have hW1:=Zc (Zc hx.2.1 hx2.2.1 (by omega)) hx3.2.1 (by omega);have hrr:=(hx3.2.1.block (w.heap.size+1) (by omega)).trans (hs1 ▸ hx2.1);have hrs:=hx3.1;rw [hs2,hs1] at hrs hs3;obtain⟨p,cap,rfl,hcap,hlt,hc⟩:=hp3.pairs;have hpb:=hp;have HC:=O hc;have HW1:=O hW1;have HRS:=O hrs;have HRR:=O hrr;have HS3:=O hs3;have HPB:=O hp.pairs;clear hc hx hp hp1 hx2 hp2 hW1 hrs hrr hx3 hp3 hs1 hs2 hs3 hpb;go_enter Tryz.func85,Tryz.ntmps85
 go_wp2_with fail
 generalize World.alloc (World.alloc (World.alloc w _) _) _=W at HC HW1 HRS HRR HS3 ⊢;go_loopw [12] (fun j w'=>∃(k:Nat) (v:Value),j=.int .i64 k∧k<=f.params.length∧w'.heap[w.heap.size+1+1]?=some (.cells #[v,.int .i64 f.results] 43 (0,0))∧w'.ownsRow W.heap.size 3 1 v k (wTk f.params k)∧Below (w.heap.size+2) W w') (fun j _=>f.params.length-(intOf j).toNat)
 case atStart=>exact⟨0,_,rfl,by omega,J HRS,World.ownsRow_nil _ _ _ _,Below.refl _ _⟩
 case round =>
  obtain⟨k,v,rfl,hk,hrow,how,hbw⟩:=hrel;have hws:=hbw.size;have cv:=(cR hrow 0);have r0:=fun X:Obj=>(Gw hrow 0 X).trans rfl;have fz:=fun j=>frozen_of_row _ _ j _ _ hrow;obtain⟨vp,vn,vc,hvs⟩:∃ vp vn vc,v=.slice vp vn vc:=by
   rcases how.2 with⟨e,_⟩ | ⟨g,cap,cur,e,_⟩
   ·exact⟨_,_,_,e⟩
   ·exact⟨_,_,_,e⟩
  subst hvs;by_cases hk2:k<f.params.length
  ·obtain⟨p',cap',he,-,-,hcc0⟩:=J HPB;injection he with e1 e2 e3;subst e1 e3;obtain⟨sb,so,rfl,hcc⟩:=hcc0 (by omega);have hsb:sb<w.heap.size:=World.block_lt_of_cell? w _ (hcc k hk2).1;have hbb:Below w.heap.size w wr:=(J HW1).trans (hbw.mono (Nat.le_add_right _ _));have c1:=(hbb.cell (p:=⟨sb,so+k*2,none⟩) hsb).trans (hcc k hk2).1;have c2:=(hbb.cell (p:=⟨sb,so+k*2+1,none⟩) hsb).trans (hcc k hk2).2;have hT:=J HS3;have hTl:w.heap.size+1+1<wr.heap.size:=by omega
   have HTL:=O hTl;have HTK:=O (Zck f.params k hk2);have HOW:=O how;have HBW:=O hbw;have HROW:=O hrow;clear hcc hcc0 how hbw hbb hrow hT hTl e2 fz cv HC;generalize f.params.getD k (0,0)=xy at c1 c2 HTK;obtain⟨x,y⟩:=xy;simp only at c1 c2;go_wp2_with (at_builtin; refine wpList_append_own _ rfl _ _ 23 rfl W.heap.size 3 ti _ 1 8 Tryz.underlying23 hti hz0 hz1 hz2 rfl (by decide) _ _ _ rfl (((J HOW).alloc _).alloc _) ⟨wr.heap.size+1,0,none⟩ 1 1 [.int .i64 x] rfl rfl (by intro j u hj; match j,hj with | 0,hj=>(simp at hj; subst hj; exact(World.cell?_alloc_at _ _ _ _ (by simp)).trans rfl)) (by intro u hu; simp at hu; subst hu; rfl) ?c3 ?c4 ?c5 ?_)
   case c3=>unfold maxLen; omega
   case c4=>omega
   case c5=>first | omega | (simp; omega)
   intro v' w7 hown hgr _;obtain⟨g2,cap2,rfl⟩:=Kf hown;have hTl:=J HTL;have hT:=J HS3;have hne:∀ q,q<W.heap.size->some q≠(Value.slice vp vn vc).ownBlock:=fun q hq e=>by have:=((J HOW).lt q e.symm).1; omega
   have hrow7:=(hgr.block (w.heap.size+1+1) (by simp; omega) (hne _ (by omega))).trans ((((Below.refl wr.heap.size wr).alloc (Nat.le_refl _) _).alloc (by simp) _).block (w.heap.size+1+1) hTl |>.trans (J HROW));have c7:=(cR hrow7 0);have f7:=frozen_of_row _ _ 0 _ _ hrow7;have HNR:=O (heap_setCell_same w7 (w.heap.size+1+1) 0 _ _ (.slice (some ⟨g2,0,none⟩) (k+1) cap2) hrow7);have HNW:=O (show w7.ownsRow W.heap.size 3 1 (.slice (some ⟨g2,0,none⟩) (k+1) cap2) (k+1) (wTk f.params (k+1)) by rw [J HTK]; exact hown);have HN2:=O (Ke (w':=w7.setCell ⟨w.heap.size+1+1,0,none⟩ (.slice (some ⟨g2,0,none⟩) (k+1) cap2)) (J HNW) (fun g hg=>heap_setCell_other _ _ _ _ (by show g≠w.heap.size+1+1; omega)));have HB7:=O (show Below (w.heap.size+2) W (w7.setCell ⟨w.heap.size+1+1,0,none⟩ (.slice (some ⟨g2,0,none⟩) (k+1) cap2)) from
    have hb7:Below (w.heap.size+2) W w7:=(((J HBW).alloc (by omega) _).alloc (by simp; omega) _).trans ⟨hgr.os,hgr.tape,hgr.output,hgr.size,fun q hq=>hgr.block q (by simp; omega) (hne q (by omega))⟩;⟨hb7.os,hb7.tape,hb7.output,by simpa using hb7.size,fun q hq=>(heap_setCell_other _ _ _ _ (by show q≠w.heap.size+1+1; omega)).trans (hb7.block q hq)⟩)
   clear hown hgr hne hTl hT hrow7 r0 c1 c2;go_wp2;go_roundw
   case rel=>exact⟨k+1,_,by go_num,by omega,J HNR,J HN2,J HB7⟩
   case measure=>simp [intOf]; omega
  ·obtain rfl:k=f.params.length:=by omega
   have hvn:vn=f.params.length:=by
    rcases how.2 with⟨e,e0⟩ | ⟨g,cap,cur,e,_⟩
    ·injection e with _ e2 _; omega
    ·injection e with _ e2 _
   subst vn;unfold wTk at how;rw [List.take_length] at how;have hT:=J HS3;have HRR2:=O ((hbw.block (w.heap.size+1) (by omega)).trans (J HRR));have HRS2:=O hrow;have HOW:=O how;have HBW:=O hbw;clear hrow how hbw hT r0 fz cv;go_wp2_with (first | (refine wpList_load_row rfl 43 (.tmp 3) rfl (w.heap.size+1+1) rfl 43 #[.slice vp f.params.length vc,.int .i64 f.results] (0,0) _ (J HRS2) Tryz.underlying43 rfl (Tryz.infSigK.trans rfl) ?_) | (refine wpList_store_row rfl 43 (.tmp 2) (.tmp 24) rfl (w.heap.size+1) #[.slice vp f.params.length vc,.int .i64 f.results] rfl rfl 43 _ (J HRR2) (Tryz.infSigK.trans rfl) rfl (by simp [Value.oneCell']) ?_))
   refine bodyPost_ret (Gx (fn:=Tryz.f85) (q:=2) (uy:=43) rfl _ _ (w.heap.size+1) 43 #[.slice vp f.params.length vc,.int .i64 f.results] (0,0) _ rfl (setRow_heap _ _ _ _ _ _ (J HRR2)) Tryz.underlying43 rfl (Tryz.infSigK.trans rfl)) rfl ?_;have hT:=J HS3;refine⟨_,rfl,Li.of_own (base:=W.heap.size) (by rw [show((Jw f).1).length=f.params.length by simp [Jw]]; exact Ke (J HOW) (fun g hg=>setRow_other _ _ _ _ (by omega))) (by simp [Jw]; omega),Zg ((J HW1).trans ((J HBW).mono (by omega))) (by omega)⟩
set_option maxHeartbeats 4000000
set_option maxRecDepth 100000
theorem Zaj.shape {w:World}{v:Value}{l:List Yb}(h:Zaj w v l):∃ q c,v=.slice q l.length c∧l.length<9223372036854775808:=by obtain⟨A,⟨p,cap,h1,h2,h3,h4⟩,-⟩:=h;exact⟨p,cap,h1,h3⟩
theorem Id.blk {w:World}{f:Zj}{pv hv sv bv:Value}{B:Nat->Value}(h:Id w f pv hv sv bv B):∀ k,k<f.blocks.length->∃ q c,B k=.slice q (f.blocks.getD k []).length c∧(f.blocks.getD k []).length<9223372036854775808:=fun k hk=>by
 have:=(h.each k hk).shape;rwa [show f.blocks[k]=f.blocks.getD k [] by simp [List.getD,hk]] at this
theorem Zla (r sp lk t0 t1:Int)(va vr vs:Value)(al sh by_:Int)(pr:Bool)(f:Zj)(pv hv sv bv:Value)(B:Nat->Value)(w:World)(hr:4<=r∧r<=16)(hF:Id w f pv hv sv bv B) :
 Calls Tryz.prog 89 #[.agg (Zu r sp lk t0 t1 va vr vs al sh by_ pr),.agg #[pv,.int .i64 f.results,hv,sv,bv]] w fun e w'=>e=.returned (.bool (Yv r (Yp sp lk t0 t1) f))∧Below w.heap.size w w':=by
 have hx:=al0 w (.cells (Zu r sp lk t0 t1 va vr vs al sh by_ pr) 25 (0,0));have hx2:=al0 (w.alloc (.cells (Zu r sp lk t0 t1 va vr vs al sh by_ pr) 25 (0,0))) (.cells #[pv,.int .i64 f.results,hv,sv,bv] 71 (0,0));have HFD:=O ((hF.below hx.2.1).below hx2.2.1);have hs1:=hx.2.2;have hs2:=hx2.2.2;have HW1:=O (Zc hx.2.1 hx2.2.1 (by omega));have hrb:=(hx2.2.1.block w.heap.size (by omega)).trans hx.1;have hrf:=hx2.1;rw [hs1] at hrf hs2;obtain⟨pp,cp,rfl⟩:=hF.ps.shape;obtain⟨ph,ch,rfl⟩:=hF.hs.shape;obtain⟨ps,cs,rfl⟩:=hF.ss.shape;obtain⟨pb,cb,rfl⟩:=hF.bs.shape;have hl1:f.params.length<9223372036854775808:=by obtain⟨_,_,_,_,h,_⟩:=hF.ps; exact h
 have hl2:f.homes.length<9223372036854775808:=hF.hs.lt;have hl3:f.slots.length<9223372036854775808:=hF.ss.lt;have hl4:f.blocks.length<9223372036854775808:=by obtain⟨_,_,_,_,h,_⟩:=hF.bs; exact h
 have HRB:=O hrb;have HRF:=O hrf;have HS2:=O hs2;have HR:=O hr;have HX0:=O (fun h:¬ f.params.length<=8=>show Yv r (Yp sp lk t0 t1) f=false by unfold Yv; simp [h]);have HX1:=O (fun h:Od (Jw f)=false=>show Yv r (Yp sp lk t0 t1) f=false by unfold Yv; simp [h]);have HX2:=O (fun h:¬ f.homes.length<=12=>show Yv r (Yp sp lk t0 t1) f=false by unfold Yv; simp [h]);have HX3:=O (fun h:Cj r (Yp sp lk t0 t1) f.homes=false=>show Yv r (Yp sp lk t0 t1) f=false by unfold Yv; simp [h]);have HX4:=O (fun h:¬ f.slots.length<=6=>show Yv r (Yp sp lk t0 t1) f=false by unfold Yv; simp [h]);have HX5:=O (fun h:Jv f.slots 1 8=false=>show Yv r (Yp sp lk t0 t1) f=false by unfold Yv; simp [h]);have HX6:=O (fun h:Xl f.blocks.length 1 12=false=>show Yv r (Yp sp lk t0 t1) f=false by unfold Yv; simp [h]);have HX7:=O (fun h:Ul f.blocks=false=>show Yv r (Yp sp lk t0 t1) f=false by unfold Yv; simp [h]);have HX8:=O (fun h:Um f=false=>show Yv r (Yp sp lk t0 t1) f=false by unfold Yv; simp [h]);have HXT:=O (fun(h0:f.params.length<=8) (h1:Od (Jw f)=true) (h2:f.homes.length<=12) (h3:Cj r (Yp sp lk t0 t1) f.homes=true) (h4:f.slots.length<=6) (h5:Jv f.slots 1 8=true) (h6:Xl f.blocks.length 1 12=true) (h7:Ul f.blocks=true) (h8:Um f=true)=>show Yv r (Yp sp lk t0 t1) f=true by unfold Yv; simp [h0,h1,h2,h3,h4,h5,h6,h7,h8]);clear hx hx2 hF hs1 hs2 hrb hrf hr;go_enter Tryz.func89,Tryz.ntmps89
 by_cases h0:f.params.length<=8
 ·skip
  go_wp2_with fail
  generalize World.alloc (World.alloc w _) _=W at HFD HW1 HRB HRF HS2 ⊢;refine(Zkz f _ _ _ _ W (J HFD).ps (by omega)).mono ?_;rintro e w2 ⟨vv,rfl,hvv,hb⟩;have HB2:=O hb;have HVV:=O hvv;obtain⟨vp,vc,rfl⟩:=hvv.shape;clear hb hvv;go_wp2_with fail
  refine(Zah _ _ _ _ (J HVV)).mono ?_;rintro e w3 ⟨rfl,hb⟩;have HB3:=O (Zc (J HB2) hb (J HB2).size);clear hb HVV HB2;have hsz:=J HS2;have hrow:=((J HB3).block (w.heap.size+1) (by omega)).trans (J HRF);have r2:=(cR hrow 2);clear hrow hsz;cases h1:Od ((Jw f).1,f.results) with
  | false=>have hz:=O (J HX1 h1);go_wp2;go_ret;exact⟨by rw [J hz]; rfl,Zc (J HW1) (J HB3) (by have:=J HS2; omega)⟩
  | true =>
   have H1:=O h1;clear h1;by_cases h2:f.homes.length<=12
   ·skip
    have hsz:=J HS2;have hrow:=((J HB3).block (w.heap.size+1) (by omega)).trans (J HRF);have hrbx:=((J HB3).block w.heap.size (by omega)).trans (J HRB);unfold Zu at hrbx;obtain⟨b0,b1,b2,b3,b4,b5,b6,b7,b8,b9,b10,b11⟩:=cT12 hrbx;clear hrow hsz hrbx;go_wp2_with fail
    refine(Zky r sp lk t0 t1 va vr vs al sh by_ pr _ f.homes w3 (J HR) ((J HFD).below (J HB3)).hs (by omega)).mono ?_;rintro e w4 ⟨rfl,hb⟩;have HB4:=O (Zc (J HB3) hb (J HB3).size);clear hb r2 b0 b1 b2 b3 b4 b5 b6 b7 b8 b9 b10 b11;have hsz:=J HS2;have hrow:=((J HB4).block (w.heap.size+1) (by omega)).trans (J HRF);have r3:=(cR hrow 3);have r4:=(cR hrow 4);clear hrow hsz;cases h3:Cj r (Yp sp lk t0 t1) f.homes with
    | false=>have hz:=O (J HX3 h3);go_wp2;go_ret;exact⟨by rw [J hz]; rfl,Zc (J HW1) (J HB4) (by have:=J HS2; omega)⟩
    | true =>
     have H3:=O h3;clear h3;by_cases h4:f.slots.length<=6
     ·skip
      go_wp2_with fail
      refine(Zkx _ f.slots w4 ((J HFD).below (J HB4)).ss).mono ?_;rintro e w5 ⟨rfl,h5'⟩;subst w5;cases h5:Jv f.slots 1 8 with
      | false=>have hz:=O (J HX5 h5);go_wp2;go_ret;exact⟨by rw [J hz]; rfl,Zc (J HW1) (J HB4) (by have:=J HS2; omega)⟩
      | true =>
       have H5:=O h5;clear h5;go_wp2_with fail
       refine(Yo f.blocks.length 1 12 w4).mono ?_;rintro e w5 ⟨rfl,h5'⟩;subst w5;cases h6:Xl f.blocks.length 1 12 with
       | false=>have hz:=O (J HX6 h6);go_wp2;go_ret;exact⟨by rw [J hz]; rfl,Zc (J HW1) (J HB4) (by have:=J HS2; omega)⟩
       | true =>
        have H6:=O h6;clear h6;go_wp2_with fail
        refine(Zib _ f.blocks B w4 ((J HFD).below (J HB4)).bs (J HFD).blk).mono ?_;rintro e w5 ⟨rfl,h5'⟩;subst w5;cases h7:Ul f.blocks with
        | false=>have hz:=O (J HX7 h7);go_wp2;go_ret;exact⟨by rw [J hz]; rfl,Zc (J HW1) (J HB4) (by have:=J HS2; omega)⟩
        | true =>
         have H7:=O h7;clear h7;have hsz:=J HS2;have hrow:=((J HB4).block (w.heap.size+1) (by omega)).trans (J HRF);obtain⟨r0,r1,r2⟩:=cT3 hrow;clear hrow hsz;go_wp2_with fail
         refine(Zic f _ _ _ _ w4 ((J HFD).below (J HB4)).ps ((J HFD).below (J HB4)).hs ((J HFD).below (J HB4)).ss).mono ?_;rintro e w5 ⟨rfl,hb⟩;have HB5:=O (Zc (J HB4) hb (J HB4).size);clear hb;cases h8:Um f with
         | false=>have hz:=O (J HX8 h8);go_wp2;go_ret;exact⟨by rw [J hz]; rfl,Zc (J HW1) (J HB5) (by have:=J HS2; omega)⟩
         | true=>have hz:=O (J HXT h0 (J H1) h2 (J H3) h4 (J H5) (J H6) (J H7) h8);go_wp2;go_ret;exact⟨by rw [J hz]; rfl,Zc (J HW1) (J HB5) (by have:=J HS2; omega)⟩
     ·have hz:=O (J HX4 h4);go_wp2;go_ret;exact⟨by rw [J hz]; rfl,Zc (J HW1) (J HB4) (by have:=J HS2; omega)⟩
   ·have hz:=O (J HX2 h2);go_wp2;go_ret;exact⟨by rw [J hz]; rfl,Zc (J HW1) (J HB3) (by have:=J HS2; omega)⟩
 ·have hz:=O (J HX0 h0);go_wp2;go_ret;exact⟨by rw [J hz]; rfl,J HW1⟩
set_option maxHeartbeats 2000000
set_option maxRecDepth 100000
theorem Yg (f:Zj)(fv ev pv hv sv bv lv:Value)(r:Int)(ls:List Int)(w:World)(hh:∃ p c,hv=.slice p f.homes.length c)(hhl:f.homes.length<9223372036854775808)(h:Li w lv ls):Calls Tryz.prog 240 #[.agg #[fv,ev,pv,.int .i64 r,hv,sv,bv],lv] w fun e w'=>e=.returned (.bool (Jp f ls))∧Below w.heap.size w w':=by
 obtain⟨ph,ch,rfl⟩:=hh;have hx:=al0 w (.cells #[fv,ev,pv,.int .i64 r,.slice ph f.homes.length ch,sv,bv] 272 (0,0));obtain⟨p,cap,rfl,hcap,hlt,hc⟩:=h.below hx.2.1;have hlt:ls.length<9223372036854775808:=hlt;have HC:=O hc;have HX:=O hx;clear hc hx h;go_enter Tryz.func240,Tryz.ntmps240
 go_wp2_with fail
 generalize World.alloc w _=W at HC HX ⊢;go_loopw [9] (fun j w'=>∃ k:Nat,j=.int .i64 k∧k<=ls.length∧w'=W∧∀ q,q<k->Zw f (ls.getD q 0)=true) (fun j _=>ls.length-(intOf j).toNat)
 case atStart=>exact⟨0,rfl,by omega,rfl,fun q hq=>by omega⟩
 case round =>
  obtain⟨k,rfl,hk,rfl,hno⟩:=hrel;have HN:=O hno;clear hno;by_cases hk2:k<ls.length
  ·obtain⟨sb,so,rfl,hcc⟩:=J HC (by omega);have c:=hcc k hk2;have r4:=(cR (J HX).1 4);have HW:=O (Yo (ls.getD k 0) 0 (f.homes.length-1) wr);have HBAD:=O (fun hb:Xl (ls.getD k 0) 0 (f.homes.length-1)=false=>show Jp f ls=false from Jm hk2 hb);have HNX:=O (fun hb:Xl (ls.getD k 0) 0 (f.homes.length-1)=true=>Xp (q:=fun q=>Zw f (ls.getD q 0)) (J HN) hb);clear hcc HC;generalize Xl (ls.getD k 0) 0 (f.homes.length-1)=yes at HW HBAD HNX;generalize ls.getD k 0=y at c HW;go_wp2_with fail
   refine(J HW).mono ?_;rintro e w2 ⟨rfl,h2⟩;subst w2;cases yes with
   | false=>have hx:=O (J HBAD rfl);go_wp2;go_ret;exact⟨by rw [J hx]; rfl,(J HX).2.1⟩
   | true =>
    have hx:=O (J HNX rfl);go_wp2;go_roundw
    case rel=>exact⟨k+1,by go_num,by omega,trivial,J hx⟩
    case measure=>simp [intOf]; omega
  ·have HT:=O (show Jp f ls=true from Gl (fun q hq=>J HN q (by omega)));obtain rfl:k=ls.length:=by omega
   go_wp2;go_ret;exact⟨by rw [J HT]; rfl,(J HX).2.1⟩
theorem Zlb (v:Value)(ls:List Int)(w:World)(h:Li w v ls)(hn:ls.length<=1000000):Calls Tryz.prog 304 #[v] w fun e w'=>e=.returned (.bool (Zcn ls))∧w'=w:=by
 have HL:=O h;obtain⟨p,cap,rfl,hcap,hlt,-⟩:=h;go_enter Tryz.func304,Tryz.ntmps304
 go_wp2_with fail
 go_loopw [7] (fun j w'=>∃ k:Nat,j=.int .i64 k∧k<=ls.length∧w'=w∧∀ q,q<k->(!decide (ls.getD q 0 ∈ ls.take q))=true) (fun j _=>ls.length-(intOf j).toNat)
 case atStart=>exact⟨0,rfl,by omega,rfl,fun q hq=>by omega⟩
 case round =>
  obtain⟨k,rfl,hk,rfl,hno⟩:=hrel;have HN:=O hno;clear hno;by_cases hk2:k<ls.length
  ·have HCT:=O (Mb (ls.take k) (ls.getD k 0) (.slice p k cap) wr ((J HL).take k (by omega)).rs (by simp; omega));obtain⟨p',cap',he,-,-,hcc⟩:=J HL;injection he with e1 e2 e3;subst e1 e3;obtain⟨sb,so,rfl,hc⟩:=hcc (by omega);have c:=hc k hk2;have HBAD:=O (fun hb:decide (ls.getD k 0 ∈ ls.take k)=true=>show Zcn ls=false from Jm hk2 (by rw [hb]; rfl));have HNX:=O (fun hb:decide (ls.getD k 0 ∈ ls.take k)=false=>Xp (q:=fun q=>!decide (ls.getD q 0 ∈ ls.take q)) (J HN) (by show(!decide (ls.getD k 0 ∈ ls.take k))=true; rw [hb]; rfl));clear hc hcc e2;generalize decide (ls.getD k 0 ∈ ls.take k)=yes at HCT HBAD HNX;generalize ls.getD k 0=y at c HCT;go_wp2_with fail
   refine(J HCT).mono ?_;rintro e w2 ⟨rfl,h2⟩;subst w2;cases yes with
   | true=>have hx:=O (J HBAD rfl);go_wp2;go_ret;exact⟨by rw [J hx]; rfl,rfl⟩
   | false =>
    have hx:=O (J HNX rfl);go_wp2;go_roundw
    case rel=>exact⟨k+1,by go_num,by omega,trivial,J hx⟩
    case measure=>simp [intOf]; omega
  ·have HT:=O (show Zcn ls=true from Gl (fun q hq=>J HN q (by omega)));obtain rfl:k=ls.length:=by omega
   go_wp2;go_ret;exact⟨by rw [J HT]; rfl,rfl⟩
theorem Zfd (f:Zj)(fv ev pv hv bv:Value)(q:Option Addr)(c:Nat)(r n:Int)(w:World)(hl:f.slots.length<9223372036854775808):Calls Tryz.prog 301 #[.agg #[fv,ev,pv,.int .i64 r,hv,.slice q f.slots.length c,bv],.int .i64 n] w fun e w'=>e=.returned (.bool (Xl n 0 (f.slots.length-1)))∧Below w.heap.size w w':=by
 have HX:=O (al0 w (.cells #[fv,ev,pv,.int .i64 r,hv,.slice q f.slots.length c,bv] 272 (0,0)));go_enter Tryz.func301,Tryz.ntmps301
 go_wp2_with fail
 refine(Yo n 0 (f.slots.length-1) _).mono ?_;rintro e w2 ⟨rfl,h2⟩;subst w2;go_wp2;go_ret;exact⟨rfl,(J HX).2.1⟩
theorem Ci (f:Zj)(fv ev pv hv sv:Value)(q:Option Addr)(c:Nat)(r n:Int)(w:World)(hl:f.blocks.length<9223372036854775808):Calls Tryz.prog 244 #[.agg #[fv,ev,pv,.int .i64 r,hv,sv,.slice q f.blocks.length c],.int .i64 n] w fun e w'=>e=.returned (.bool (Xl n 0 (f.blocks.length-1)))∧Below w.heap.size w w':=by
 have HX:=O (al0 w (.cells #[fv,ev,pv,.int .i64 r,hv,sv,.slice q f.blocks.length c] 272 (0,0)));go_enter Tryz.func244,Tryz.ntmps244
 go_wp2_with fail
 refine(Yo n 0 (f.blocks.length-1) _).mono ?_;rintro e w2 ⟨rfl,h2⟩;subst w2;go_wp2;go_ret;exact⟨rfl,(J HX).2.1⟩
theorem Kg (p:Zk)(ev pv hv sv bv:Value)(q:Option Addr)(c:Nat)(r n:Int)(w:World)(hl:p.funcs.length<9223372036854775808):Calls Tryz.prog 242 #[.agg #[.slice q p.funcs.length c,ev,pv,.int .i64 r,hv,sv,bv],.int .i64 n] w fun e w'=>e=.returned (.bool (Xl n 0 (p.funcs.length-1)))∧Below w.heap.size w w':=by
 have HX:=O (al0 w (.cells #[.slice q p.funcs.length c,ev,pv,.int .i64 r,hv,sv,bv] 272 (0,0)));go_enter Tryz.func242,Tryz.ntmps242
 go_wp2_with fail
 refine(Yo n 0 (p.funcs.length-1) _).mono ?_;rintro e w2 ⟨rfl,h2⟩;subst w2;go_wp2;go_ret;exact⟨rfl,(J HX).2.1⟩
theorem Zps (n:Int)(w:World):Calls Tryz.prog 302 #[.int .i64 n] w fun e w'=>e=.returned (.bool (Cl n))∧w'=w:=by
 have hw:Cl n=decide (n=1∨n=2∨n=4∨n=8):=rfl;rw [hw];clear hw;by_cases h1:n=1
 ·subst h1;go_enter Tryz.func302,Tryz.ntmps302
  go_wp2;go_ret;exact⟨rfl,rfl⟩
 ·by_cases h2:n=2
  ·subst h2;go_enter Tryz.func302,Tryz.ntmps302
   go_wp2;go_ret;exact⟨rfl,rfl⟩
  ·by_cases h4:n=4
   ·subst h4;go_enter Tryz.func302,Tryz.ntmps302
    go_wp2;go_ret;exact⟨rfl,rfl⟩
   ·by_cases h8:n=8
    ·subst h8;go_enter Tryz.func302,Tryz.ntmps302
     go_wp2;go_ret;exact⟨rfl,rfl⟩
    ·have hd:decide (n=1∨n=2∨n=4∨n=8)=false:=by simp; omega
     rw [hd];have z1:(n==1)=false:=by simpa using h1
     have z2:(n==2)=false:=by simpa using h2
     have z4:(n==4)=false:=by simpa using h4
     have z8:(n==8)=false:=by simpa using h8
     clear hd h1 h2 h4 h8;go_enter Tryz.func302,Tryz.ntmps302
     go_wp2;go_ret;exact⟨rfl,rfl⟩
set_option maxHeartbeats 2000000
set_option maxRecDepth 100000
theorem Zgj {f:Zj}{i:Yb}(h:Xl i.a 0 (f.slots.length-1)=false):Kw f i=false:=by unfold Kw; simp [h]
theorem Ib {f:Zj}{i:Yb}(h:Cl i.n=false):Kw f i=false:=by unfold Kw; simp [h]
theorem IntKind.wrap_of_boundsK {n:Int}(h0:-9223372036854775808<=n)(h1:n<9223372036854775808):IntKind.i64.wrap n=n:=by rw [IntKind.wrap_i64];omega
theorem Zfe (f:Zj)(i:Yb)(fv ev pv hv sv bv av ov:Value)(r:Int)(w:World)(hs:Li w sv f.slots)(h18:Jv f.slots 1 8=true)(hnn:0<=i.n∧i.n<18446744073709551616):Calls Tryz.prog 241 #[.agg #[fv,ev,pv,.int .i64 r,hv,sv,bv],.agg #[.int .i64 i.op,.int .i64 i.d,.int .i64 i.a,.int .i64 i.bb,.int .u64 i.n,.int .i64 i.f,av,ov]] w fun e w'=>e=.returned (.bool (Kw f i))∧Below w.heap.size w w':=by
 obtain⟨op,d,a,bb,n,fx,gs,os⟩:=i;simp only at hnn ⊢;have hx:=al0 w (.cells #[fv,ev,pv,.int .i64 r,hv,sv,bv] 272 (0,0));have hx2:=al0 (w.alloc (.cells #[fv,ev,pv,.int .i64 r,hv,sv,bv] 272 (0,0))) (.cells #[.int .i64 op,.int .i64 d,.int .i64 a,.int .i64 bb,.int .u64 n,.int .i64 fx,av,ov] 110 (0,0));have HL:=O ((hs.below hx.2.1).below hx2.2.1);have hs1:=hx.2.2;have hs2:=hx2.2.2;have HW1:=O (Zc hx.2.1 hx2.2.1 (by omega));have hrs:=(hx2.2.1.block w.heap.size (by omega)).trans hx.1;have hri:=hx2.1;rw [hs1] at hri hs2;have hsl:f.slots.length<9223372036854775808:=hs.lt;obtain⟨ps,cs,rfl⟩:=hs.shape;have HRS:=O hrs;have HRI:=O hri;have HS2:=O hs2;have HNU:=O h18;have hn0:=hnn.1;have hn1:=hnn.2;clear hx hx2 hs hs1 hs2 hrs hri h18 hnn;go_enter Tryz.func241,Tryz.ntmps241
 go_wp2_with fail
 generalize World.alloc (World.alloc w _) _=W at HL HW1 HRS HRI HS2 ⊢;refine(Zfd f _ _ _ _ _ _ _ _ _ W hsl).mono ?_;rintro e w2 ⟨rfl,hb⟩;have HB2:=O hb;have hsz:=J HS2;have hrow:=(hb.block (w.heap.size+1) (by omega)).trans (J HRI);have r2:=(cR hrow 2);have r3:=(cR hrow 3);have r4:=(cR hrow 4);have hrow2:=(hb.block w.heap.size (by omega)).trans (J HRS);have q5:=(cR hrow2 5);have HEND:=O (Zc (J HW1) hb (by omega));clear hb hrow hrow2 hsz;cases h1:Xl a 0 (f.slots.length-1) with
 | false=>have hz:=O (Zgj (f:=f) (i:=⟨op,d,a,bb,n,fx,gs,os⟩) h1);go_wp2;go_ret;exact⟨by rw [J hz]; rfl,J HEND⟩
 | true =>
  by_cases h8:n<=8
  ·have hcv:IntKind.i64.wrap n=n:=IntKind.wrap_of_boundsK (by omega) (by omega);go_wp2_with fail
   refine(Zps n w2).mono ?_;rintro e w3 ⟨rfl,h3⟩;subst w3;cases h2:Cl n with
   | false=>have hz:=O (Ib (f:=f) (i:=⟨op,d,a,bb,n,fx,gs,os⟩) h2);go_wp2;go_ret;exact⟨by rw [J hz]; rfl,J HEND⟩
   | true =>
    have hw:=h2;unfold Cl at hw;have hw:=of_decide_eq_true hw;go_wp2_with fail
    have ha:=h1;unfold Xl at ha;obtain⟨g0,g1⟩:=of_decide_eq_true ha;obtain⟨m,rfl⟩:∃ m:Nat,a=m:=⟨a.toNat,by omega⟩;have hm:m<f.slots.length:=by omega
    have hsb:Xl (f.slots.getD m 0) 1 8=true:=Je (J HNU) hm;unfold Xl at hsb;obtain⟨s0,s1⟩:=of_decide_eq_true hsb;obtain⟨p',cap',he,-,-,hcc⟩:=(J HL).below (J HB2);injection he with e1 e2 e3;subst e1 e3;obtain⟨sb,so,rfl,hc⟩:=hcc (by omega);have c:=hc m hm;have HSL:=O (show Kw f ⟨op,d,m,bb,n,fx,gs,os⟩=(Xl bb 0 (8*f.slots.getD m 0-n)&&decide (bb % n=0)) by unfold Kw; simp only [Int.toNat_natCast]; rw [h1,h2]; rfl);clear hc hcc hsb ha e2 g0 g1 h1 h2;generalize f.slots.getD m 0=s at c HSL s0 s1;have HWI:=O (fun V=>Yo bb 0 (8*s-n) V);rcases hw with rfl | rfl | rfl | rfl;all_goals (
     cases h3:Xl bb 0 (8*s-_) with
     | false =>
      rw [h3] at HWI HSL;go_quiet ((go_at_call 100; exact Calls.quiet_of_same (J HWI _)))
      go_wp2;go_ret;exact⟨by rw [J HSL]; rfl,Ge (J HEND) _⟩
     | true =>
      rw [h3] at HWI HSL;unfold Xl at h3;obtain⟨g0,g1⟩:=of_decide_eq_true h3;obtain⟨t,rfl⟩:∃ t:Nat,bb=t:=⟨bb.toNat,by omega⟩;clear h3 g0 g1;go_quiet ((go_at_call 100; exact Calls.quiet_of_same (J HWI _)))
      go_wp2;go_ret;exact⟨by rw [J HSL]; first | rfl | simp [Int.emod_one],Ge (J HEND) _⟩)
  ·have hz:=O (Ib (f:=f) (i:=⟨op,d,a,bb,n,fx,gs,os⟩) (by unfold Cl; simp; omega));go_wp2;go_ret;exact⟨by rw [J hz]; rfl,J HEND⟩
set_option maxHeartbeats 2000000
set_option maxRecDepth 100000
theorem Li.one (w:World)(n:Int):Li (w.alloc (.cells #[.int .i64 n] 3 (0,0))) (.slice (some ⟨w.heap.size,0,none⟩) 1 1) [n]:=Li.new (ns:=[n]) (heap_alloc_new w _) (by show 1<Xe; decide)
theorem Zsr (f:Zj)(fv ev pv hv sv bv:Value)(r:Int)(x:Int×Int)(w:World)(hh:Li w hv f.homes)(hs:Li w sv f.slots):Calls Tryz.prog 349 #[.agg #[fv,ev,pv,.int .i64 r,hv,sv,bv],.agg #[.int .i64 x.1,.int .i64 x.2]] w fun e w'=>e=.returned (.bool (Ll f x))∧Below w.heap.size w w':=by
 obtain⟨x,y⟩:=x;have hhl:f.homes.length<9223372036854775808:=hh.lt;have hsl:f.slots.length<9223372036854775808:=hs.lt;obtain⟨ph,ch,rfl⟩:=hh.shape;obtain⟨ps,cs,rfl⟩:=hs.shape;have hx:=al0 w (.cells #[fv,ev,pv,.int .i64 r,.slice ph f.homes.length ch,.slice ps f.slots.length cs,bv] 272 (0,0));have hx2:=al0 (w.alloc (.cells #[fv,ev,pv,.int .i64 r,.slice ph f.homes.length ch,.slice ps f.slots.length cs,bv] 272 (0,0))) (.cells #[.int .i64 x,.int .i64 y] 372 (0,0));have HL:=O ((hs.below hx.2.1).below hx2.2.1);have hs1:=hx.2.2;have hs2:=hx2.2.2;have HW1:=O (Zc hx.2.1 hx2.2.1 (by omega));have hrs:=(hx2.2.1.block w.heap.size (by omega)).trans hx.1;have hri:=hx2.1;rw [hs1] at hri hs2;have HRS:=O hrs;have HRI:=O hri;have HS2:=O hs2;clear hx hx2 hs hs1 hs2 hrs hri hh;by_cases h0:x=0
 ·have HS:=O (show Ll f (x,y)=Jp f [y] by unfold Ll Jp; simp [h0,upB,Zw]);subst h0;go_enter Tryz.func349,Tryz.ntmps349
  go_wp2_with fail
  generalize World.alloc (World.alloc w _) _=W at HL HW1 HRS HRI HS2 ⊢;have hT:=J HS2;rw [← hT];refine(Yg f _ _ _ _ _ _ _ _ [y] _ ⟨ph,ch,rfl⟩ hhl (Li.one W y)).mono ?_;rintro e w2 ⟨rfl,hb⟩;have HB2:=O (Zc (Zc (J HW1) (al0 W (.cells #[.int .i64 y] 3 (0,0))).2.1 (by omega)) hb (by simp; omega));clear hb hT;go_wp2;go_ret;exact⟨by rw [J HS]; rfl,J HB2⟩
 ·have hz:(x==0)=false:=by simpa using h0
  have HS:=O (show Ll f (x,y)=(Xl y 0 (f.slots.length-1)&&decide (f.slots.getD y.toNat 0=x)) by unfold Ll; simp [h0]);have HW:=O (fun V fv ev pv r hv bv=>Zfd f fv ev pv hv bv ps cs r y V hsl);go_enter Tryz.func349,Tryz.ntmps349
  go_wp2_with fail
  generalize World.alloc (World.alloc w _) _=W at HL HW1 HRS HRI HS2 ⊢;have hT:=J HS2;cases hr:Xl y 0 (f.slots.length-1) with
  | false =>
   rw [hr] at HW HS;have HK:=O (fun(V:World) (h:Below W.heap.size W V)=>show Below W.heap.size W V∧V.cell? ⟨w.heap.size,0,none⟩=some (fv)∧V.cell? ⟨w.heap.size,1,none⟩=some (ev)∧V.cell? ⟨w.heap.size,2,none⟩=some (pv)∧V.cell? ⟨w.heap.size,3,none⟩=some (.int .i64 r)∧V.cell? ⟨w.heap.size,4,none⟩=some (.slice ph f.homes.length ch)∧V.cell? ⟨w.heap.size,5,none⟩=some (.slice ps f.slots.length cs)∧V.cell? ⟨w.heap.size,6,none⟩=some (bv)∧V.cell? ⟨w.heap.size+1,0,none⟩=some (.int .i64 x)∧V.cell? ⟨w.heap.size+1,1,none⟩=some (.int .i64 y) from⟨h,(cR ((h.block w.heap.size (by omega)).trans (J HRS)) 0),(cR ((h.block w.heap.size (by omega)).trans (J HRS)) 1),(cR ((h.block w.heap.size (by omega)).trans (J HRS)) 2),(cR ((h.block w.heap.size (by omega)).trans (J HRS)) 3),(cR ((h.block w.heap.size (by omega)).trans (J HRS)) 4),(cR ((h.block w.heap.size (by omega)).trans (J HRS)) 5),(cR ((h.block w.heap.size (by omega)).trans (J HRS)) 6),(cR ((h.block (w.heap.size+1) (by omega)).trans (J HRI)) 0),(cR ((h.block (w.heap.size+1) (by omega)).trans (J HRI)) 1)⟩);clear hr hT;refine wp_region_held_drew (S:=fun V=>Below W.heap.size W V∧V.cell? ⟨w.heap.size,0,none⟩=some (fv)∧V.cell? ⟨w.heap.size,1,none⟩=some (ev)∧V.cell? ⟨w.heap.size,2,none⟩=some (pv)∧V.cell? ⟨w.heap.size,3,none⟩=some (.int .i64 r)∧V.cell? ⟨w.heap.size,4,none⟩=some (.slice ph f.homes.length ch)∧V.cell? ⟨w.heap.size,5,none⟩=some (.slice ps f.slots.length cs)∧V.cell? ⟨w.heap.size,6,none⟩=some (bv)∧V.cell? ⟨w.heap.size+1,0,none⟩=some (.int .i64 x)∧V.cell? ⟨w.heap.size+1,1,none⟩=some (.int .i64 y)) (by kernel_rfl) (J HK _ (Below.refl _ _).drew) (fun hHeld=>?_)
   refine tT 0 ?_;refine tT 1 ?_;refine tT 2 ?_;refine tO 3 fun K hK=>?_;go_simp;refine(J HW _ _ _ _ _ _ _).mono ?_;rintro e w5 ⟨rfl,hb5⟩;have HB5:=O (Zc (Below.refl W.heap.size W).drew hb5 (Nat.le_refl _));clear hb5;go_wp2_with fail
   refine kO hK (J HK _ (J HB5)) (fun hHeld2=>?_);clear hK K;refine tT 4 ?_;refine tS 5 ?_;refine tS 6 ?_;refine tS 7 ?_;refine tS 8 ?_;refine tS 9 ?_;refine tS 10 ?_;refine tS 11 ?_;refine tS 12 ?_;refine tS 13 ?_;refine tS 14 ?_;refine tT 15 ?_;refine tT 16 ?_;refine wpAnyH_done (by kernel_rfl) ?_ _;all_goals (
    go_wp2;go_ret;exact⟨by rw [J HS]; rfl,Zc (J HW1) (J HB5) (by have:=J HS2; omega)⟩)
  | true =>
   rw [hr] at HW HS;unfold Xl at hr;obtain⟨g0,g1⟩:=of_decide_eq_true hr;obtain⟨n,rfl⟩:∃ n:Nat,y=n:=⟨y.toNat,by omega⟩;have hn:n<f.slots.length:=by omega
   obtain⟨p',cap',he,-,-,hcc⟩:=J HL;injection he with e1 e2 e3;subst e1 e3;obtain⟨sb,so,rfl,hc⟩:=hcc (by omega);have cc:=hc n hn;rw [Int.toNat_natCast] at HS;generalize f.slots.getD n 0=z at cc HS;have HK:=O (fun(V:World) (h:Below W.heap.size W V)=>show Below W.heap.size W V∧V.cell? ⟨w.heap.size,0,none⟩=some (fv)∧V.cell? ⟨w.heap.size,1,none⟩=some (ev)∧V.cell? ⟨w.heap.size,2,none⟩=some (pv)∧V.cell? ⟨w.heap.size,3,none⟩=some (.int .i64 r)∧V.cell? ⟨w.heap.size,4,none⟩=some (.slice ph f.homes.length ch)∧V.cell? ⟨w.heap.size,5,none⟩=some (.slice (some ⟨sb,so,none⟩) f.slots.length cs)∧V.cell? ⟨w.heap.size,6,none⟩=some (bv)∧V.cell? ⟨w.heap.size+1,0,none⟩=some (.int .i64 x)∧V.cell? ⟨w.heap.size+1,1,none⟩=some (.int .i64 n)∧V.cell? ⟨sb,so+n,none⟩=some (.int .i64 z) from⟨h,(cR ((h.block w.heap.size (by omega)).trans (J HRS)) 0),(cR ((h.block w.heap.size (by omega)).trans (J HRS)) 1),(cR ((h.block w.heap.size (by omega)).trans (J HRS)) 2),(cR ((h.block w.heap.size (by omega)).trans (J HRS)) 3),(cR ((h.block w.heap.size (by omega)).trans (J HRS)) 4),(cR ((h.block w.heap.size (by omega)).trans (J HRS)) 5),(cR ((h.block w.heap.size (by omega)).trans (J HRS)) 6),(cR ((h.block (w.heap.size+1) (by omega)).trans (J HRI)) 0),(cR ((h.block (w.heap.size+1) (by omega)).trans (J HRI)) 1),(h.cell (World.block_lt_of_cell? W _ cc)).trans cc⟩);clear hr hT hc hcc g0 g1 e2 cc;go_region_held3 (fun V=>Below W.heap.size W V∧V.cell? ⟨w.heap.size,0,none⟩=some (fv)∧V.cell? ⟨w.heap.size,1,none⟩=some (ev)∧V.cell? ⟨w.heap.size,2,none⟩=some (pv)∧V.cell? ⟨w.heap.size,3,none⟩=some (.int .i64 r)∧V.cell? ⟨w.heap.size,4,none⟩=some (.slice ph f.homes.length ch)∧V.cell? ⟨w.heap.size,5,none⟩=some (.slice (some ⟨sb,so,none⟩) f.slots.length cs)∧V.cell? ⟨w.heap.size,6,none⟩=some (bv)∧V.cell? ⟨w.heap.size+1,0,none⟩=some (.int .i64 x)∧V.cell? ⟨w.heap.size+1,1,none⟩=some (.int .i64 n)∧V.cell? ⟨sb,so+n,none⟩=some (.int .i64 z)) ((first | exact J HK _ (Below.refl _ _).drew | exact J HK _ (J HB5))) ((go_at_call 301; refine(J HW _ _ _ _ _ _ _).mono ?_; rintro e w5 ⟨rfl,hb5⟩; have HB5:=O (Zc (Below.refl W.heap.size W).drew hb5 (Nat.le_refl _)); clear hb5))
   all_goals (
    go_wp2;go_ret;exact⟨by rw [J HS]; rfl,Zc (J HW1) (J HB5) (by have:=J HS2; omega)⟩)
set_option maxHeartbeats 4000000
set_option maxRecDepth 100000
theorem Zff (f:Zj)(fv ev pv hv sv bv av qv:Value)(r:Int)(gs:List (Int×Int))(ns:List Int)(w:World)(hh:Li w hv f.homes)(hs:Li w sv f.slots)(ha:LS 2 w av gs.length (fun k=>La (gs.getD k (0,0))))(hq:Li w qv ns):Calls Tryz.prog 303 #[.agg #[fv,ev,pv,.int .i64 r,hv,sv,bv],av,qv] w fun e w'=>e=.returned (.bool (Sc f gs ns))∧Below w.heap.size w w':=by
 obtain⟨ph,ch,rfl⟩:=hh.shape;obtain⟨ps,cs,rfl⟩:=hs.shape;have hx:=al0 w (.cells #[fv,ev,pv,.int .i64 r,.slice ph f.homes.length ch,.slice ps f.slots.length cs,bv] 272 (0,0));have HH:=O (hh.below hx.2.1);have HS:=O (hs.below hx.2.1);obtain⟨pa,ca,rfl,hca,hla,hac⟩:=(ha.below hx.2.1).pairs;obtain⟨pq,cq,rfl,hcq,hlq,hqc⟩:=hq.below hx.2.1;have hlq:ns.length<9223372036854775808:=hlq;have HA:=O hac;have HQ:=O hqc;have HX:=O hx;clear hx hh hs ha hq hac hqc;by_cases hne:gs.length=ns.length
 ·have z:((gs.length:Int) != (ns.length:Int))=false:=by simp [hne]
  have HAB:=O (show Sc f gs ns=upB gs.length (fun k=>decide ((gs.getD k (0,0)).1=ns.getD k 0)&&Ll f (gs.getD k (0,0))) by unfold Sc; simp [hne]);have HNE:=O hne;clear hne;go_enter Tryz.func303,Tryz.ntmps303
  go_wp2_with fail
  generalize World.alloc w _=W at HH HS HA HQ HX ⊢;go_loopw [16] (fun j w'=>∃ k:Nat,j=.int .i64 k∧k<=gs.length∧Below W.heap.size W w'∧∀ q,q<k->(decide ((gs.getD q (0,0)).1=ns.getD q 0)&&Ll f (gs.getD q (0,0)))=true) (fun j _=>gs.length-(intOf j).toNat)
  case atStart=>exact⟨0,rfl,by omega,Below.refl _ _,fun q hq=>by omega⟩
  case round =>
   obtain⟨k,rfl,hk,hbw,hno⟩:=hrel;have HN:=O hno;clear hno;have hWs:=(J HX).2.2;have hws:=hbw.size;by_cases hk2:k<gs.length
   ·have hk3:k<ns.length:=by have:=J HNE; omega
    obtain⟨sb,so,rfl,hcc⟩:=J HA (by omega);obtain⟨sq,oq,rfl,hqq⟩:=J HQ (by omega);have hsb:sb<W.heap.size:=World.block_lt_of_cell? W _ (hcc k hk2).1;have c1:=(hbw.cell (p:=⟨sb,so+k*2,none⟩) hsb).trans (hcc k hk2).1;have c2:=(hbw.cell (p:=⟨sb,so+k*2+1,none⟩) hsb).trans (hcc k hk2).2;have hcq':=(hbw.cell (World.block_lt_of_cell? W _ (hqq k hk3))).trans (hqq k hk3);have HROW:=O ((hbw.block w.heap.size (by omega)).trans (J HX).1);have HBAD:=O (fun hb:(decide ((gs.getD k (0,0)).1=ns.getD k 0)&&Ll f (gs.getD k (0,0)))=false=>show Sc f gs ns=false by rw [J HAB]; exact Jm hk2 hb);have HNX:=O (fun hb:(decide ((gs.getD k (0,0)).1=ns.getD k 0)&&Ll f (gs.getD k (0,0)))=true=>Xp (q:=fun q=>decide ((gs.getD q (0,0)).1=ns.getD q 0)&&Ll f (gs.getD q (0,0))) (J HN) hb);have HBW:=O hbw;clear hcc hqq hbw;generalize gs.getD k (0,0)=xy at c1 c2 HBAD HNX;obtain⟨x,y⟩:=xy;generalize ns.getD k 0=z2 at hcq' HBAD HNX;simp only at c1 c2 HBAD HNX;go_wp2_with fail
    have hy:=al0 wr (.cells #[.int .i64 x,.int .i64 y] 372 (0,0));have hrX:=hy.1;have hrS:=(hy.2.1.block w.heap.size (by omega)).trans (J HROW);have cq:=(hy.2.1.cell (World.block_lt_of_cell? wr _ hcq')).trans hcq';have hbU:Below W.heap.size W (wr.alloc (.cells #[.int .i64 x,.int .i64 y] 372 (0,0))):=Zc (J HBW) hy.2.1 hws;have hUs:=hy.2.2;clear hy hcq' c1 c2;generalize hTx:wr.heap.size=Tx at hrX hUs hws ⊢;generalize World.alloc wr _=U at hrX hrS cq hbU hUs ⊢;have hTU:Tx<U.heap.size:=by omega
    have HBU:=O hbU;clear hTx;by_cases hxz:x=z2
    ·subst hxz;have zz:(x != x)=false:=by simp
     have hsz:w.heap.size<U.heap.size:=by omega
     have HK:=O (fun(V:World) (h:Below U.heap.size U V)=>show Below U.heap.size U V∧V.cell? ⟨w.heap.size,0,none⟩=some (fv)∧V.cell? ⟨w.heap.size,1,none⟩=some (ev)∧V.cell? ⟨w.heap.size,2,none⟩=some (pv)∧V.cell? ⟨w.heap.size,3,none⟩=some (.int .i64 r)∧V.cell? ⟨w.heap.size,4,none⟩=some (.slice ph f.homes.length ch)∧V.cell? ⟨w.heap.size,5,none⟩=some (.slice ps f.slots.length cs)∧V.cell? ⟨w.heap.size,6,none⟩=some (bv)∧V.cell? ⟨Tx,0,none⟩=some (.int .i64 x)∧V.cell? ⟨Tx,1,none⟩=some (.int .i64 y)∧V.cell? ⟨sq,oq+k,none⟩=some (.int .i64 x) from⟨h,(cR ((h.block w.heap.size (by omega)).trans hrS) 0),(cR ((h.block w.heap.size (by omega)).trans hrS) 1),(cR ((h.block w.heap.size (by omega)).trans hrS) 2),(cR ((h.block w.heap.size (by omega)).trans hrS) 3),(cR ((h.block w.heap.size (by omega)).trans hrS) 4),(cR ((h.block w.heap.size (by omega)).trans hrS) 5),(cR ((h.block w.heap.size (by omega)).trans hrS) 6),(cR ((h.block Tx (by omega)).trans hrX) 0),(cR ((h.block Tx (by omega)).trans hrX) 1),(h.cell (World.block_lt_of_cell? U _ cq)).trans cq⟩);have HW:=O (fun(V:World) (h:Below U.heap.size U V)=>Zsr f fv ev pv (.slice ph f.homes.length ch) (.slice ps f.slots.length cs) bv r (x,y) V ((J HH).below (Zc hbU h (by omega))) ((J HS).below (Zc hbU h (by omega))));clear hrX hrS cq hbU hUs hsz hTU;go_region_held3 (fun V=>Below U.heap.size U V∧V.cell? ⟨w.heap.size,0,none⟩=some (fv)∧V.cell? ⟨w.heap.size,1,none⟩=some (ev)∧V.cell? ⟨w.heap.size,2,none⟩=some (pv)∧V.cell? ⟨w.heap.size,3,none⟩=some (.int .i64 r)∧V.cell? ⟨w.heap.size,4,none⟩=some (.slice ph f.homes.length ch)∧V.cell? ⟨w.heap.size,5,none⟩=some (.slice ps f.slots.length cs)∧V.cell? ⟨w.heap.size,6,none⟩=some (bv)∧V.cell? ⟨Tx,0,none⟩=some (.int .i64 x)∧V.cell? ⟨Tx,1,none⟩=some (.int .i64 y)∧V.cell? ⟨sq,oq+k,none⟩=some (.int .i64 x)) ((first | exact J HK _ (Below.refl _ _).drew | exact J HK _ (J HB5))) ((go_at_call 349; refine(J HW _ (Below.refl _ _).drew).mono ?_; rintro e w5 ⟨rfl,hb5⟩; have HB5:=O (Zc (Below.refl U.heap.size U).drew hb5 (Nat.le_refl _)); clear hb5))
     all_goals (
      have hUB:=(J HBU).size;have HB6:=O (Zc (J HBU) (J HB5) hUB);cases hsp:Ll f (x,y) with
      | false=>have hx:=O (J HBAD (by rw [hsp]; simp));clear hsp;go_wp2;go_ret;exact⟨by rw [J hx]; rfl,Zc (J HX).2.1 (J HB6) (by omega)⟩
      | true =>
       have hx:=O (J HNX (by rw [hsp]; simp));clear hsp;go_wp2;go_roundw
       case rel=>exact⟨k+1,by go_num,by omega,J HB6,J hx⟩
       case measure=>simp [intOf]; omega)
    ·have zz:(x != z2)=true:=by simpa using hxz
     have hx:=O (J HBAD (by simp [hxz]));have q0:=(cR hrX 0);clear hrX hrS hbU hUs hTU;go_quiet (fail)
     go_wp2;go_ret;exact⟨by rw [J hx]; rfl,Ge (Zc (J HX).2.1 (J HBU) (by omega)) _⟩
   ·have HT:=O (show Sc f gs ns=true by rw [J HAB]; exact Gl (fun q hq=>J HN q (by omega)));obtain rfl:k=gs.length:=by omega
    have HBW:=O hbw;clear hbw;go_wp2;go_ret;exact⟨by rw [J HT]; rfl,Zc (J HX).2.1 (J HBW) (by omega)⟩
 ·have z:((gs.length:Int) != (ns.length:Int))=true:=by simp; omega
  have HT:=O (show Sc f gs ns=false by unfold Sc; simp [hne]);clear hne;go_enter Tryz.func303,Tryz.ntmps303
  go_wp2;go_ret;exact⟨by rw [J HT]; rfl,(J HX).2.1⟩
set_option maxHeartbeats 4000000
set_option maxRecDepth 100000
theorem Zlc (f:Zj)(i:Yb)(s:List Int×Int)(fv ev pv hv sv bv av ov qv:Value)(w:World)(hh:Li w hv f.homes)(hs:Li w sv f.slots)(ha:LS 2 w av i.args.length (fun k=>La (i.args.getD k (0,0))))(ho:Li w ov i.outs)(hq:Li w qv s.1):Calls Tryz.prog 245 #[.agg #[fv,ev,pv,.int .i64 f.results,hv,sv,bv],.agg #[.int .i64 i.op,.int .i64 i.d,.int .i64 i.a,.int .i64 i.bb,.int .u64 i.n,.int .i64 i.f,av,ov],.agg #[qv,.int .i64 s.2]] w fun e w'=>e=.returned (.bool (Ic f i s))∧Below w.heap.size w w':=by
 have hx:=al0 w (.cells #[fv,ev,pv,.int .i64 f.results,hv,sv,bv] 272 (0,0));generalize hW1:World.alloc w (.cells #[fv,ev,pv,.int .i64 f.results,hv,sv,bv] 272 (0,0))=W1 at hx;have hx2:=al0 W1 (.cells #[.int .i64 i.op,.int .i64 i.d,.int .i64 i.a,.int .i64 i.bb,.int .u64 i.n,.int .i64 i.f,av,ov] 110 (0,0));generalize hW2:World.alloc W1 (.cells #[.int .i64 i.op,.int .i64 i.d,.int .i64 i.a,.int .i64 i.bb,.int .u64 i.n,.int .i64 i.f,av,ov] 110 (0,0))=W2 at hx2;have hx3:=al0 W2 (.cells #[qv,.int .i64 s.2] 43 (0,0));have hs1:=hx.2.2;have hs2:=hx2.2.2;have hs3:=hx3.2.2;have hb12:=Zc hx.2.1 hx2.2.1 (by omega);have hb13:=Zc hb12 hx3.2.1 (by omega);have HH:=O (hh.below hb13);have HS:=O (hs.below hb13);have HA:=O (ha.below hb13);have HO:=O (ho.below hb13);have HQ:=O (hq.below hb13);have HW:=O hb13;have HR1:=O ((hx3.2.1.block w.heap.size (by omega)).trans ((hx2.2.1.block w.heap.size (by omega)).trans hx.1));have HR2:=O ((hx3.2.1.block (w.heap.size+1) (by omega)).trans (hs1 ▸ hx2.1));have hr3:=hx3.1;rw [hs2,hs1] at hr3 hs3;have HR3:=O hr3;have HZ:=O hs3;have hhl:f.homes.length<9223372036854775808:=hh.lt;have hol:i.outs.length<9223372036854775808:=ho.lt;obtain⟨ph,ch,rfl⟩:=hh.shape;obtain⟨ps,cs,rfl⟩:=hs.shape;obtain⟨pa,ca,rfl⟩:=ha.shape;obtain⟨po,co,rfl⟩:=ho.shape;obtain⟨pq,cq,rfl⟩:=hq.shape;clear hx hx2 hx3 hs1 hs2 hs3 hb12 hb13 hr3 hh hs ha ho hq;subst hW1 hW2;go_enter Tryz.func245,Tryz.ntmps245
 go_wp2_with fail
 generalize World.alloc (World.alloc (World.alloc w _) _) _=W at HH HS HA HO HQ HW HR1 HR2 HR3 HZ ⊢;refine(Zff f _ _ _ _ _ _ _ _ _ i.args s.1 W (J HH) (J HS) (J HA) (J HQ)).mono ?_;rintro e w2 ⟨rfl,hb⟩;have HB2:=O hb;have hz:=J HZ;have hri:=(hb.block (w.heap.size+1) (by omega)).trans (J HR2);have hrq:=(hb.block (w.heap.size+1+1) (by omega)).trans (J HR3);have hrs:=(hb.block w.heap.size (by omega)).trans (J HR1);have r7:=(cR hri 7);have q1:=(cR hrq 1);obtain⟨s0,s1,s2,s3,s4,s5,s6⟩:=cT7 hrs;clear hb hri hrq hrs hz;cases h1:Sc f i.args s.1 with
 | false=>have hx:=O (show Ic f i s=false by unfold Ic; rw [h1]; rfl);clear h1;go_wp2;go_ret;exact⟨by rw [J hx]; rfl,Zc (J HW) (J HB2) (by have:=J HZ; omega)⟩
 | true =>
  have H1:=O h1;clear h1;by_cases h2:s.2=f.results
  ·have z2:(s.2==f.results)=true:=by simpa using h2
   have hx:=O (show Ic f i s=true by unfold Ic; rw [J H1]; simp [h2]);clear h2;go_wp2;go_ret;exact⟨by rw [J hx]; rfl,Zc (J HW) (J HB2) (by have:=J HZ; omega)⟩
  ·have z2:(s.2==f.results)=false:=by simpa using h2
   have hx:=O (show Ic f i s=false by unfold Ic; rw [J H1]; simp [h2]);clear h2;go_wp2;go_ret;exact⟨by rw [J hx]; rfl,Zc (J HW) (J HB2) (by have:=J HZ; omega)⟩
theorem Zcl (f:Zj)(i:Yb)(s:List Int×Int)(fv ev pv hv sv bv av ov qv:Value)(w:World)(hh:Li w hv f.homes)(hs:Li w sv f.slots)(ha:LS 2 w av i.args.length (fun k=>La (i.args.getD k (0,0))))(ho:Li w ov i.outs)(hq:Li w qv s.1)(hon:s.2<=1000000):Calls Tryz.prog 243 #[.agg #[fv,ev,pv,.int .i64 f.results,hv,sv,bv],.agg #[.int .i64 i.op,.int .i64 i.d,.int .i64 i.a,.int .i64 i.bb,.int .u64 i.n,.int .i64 i.f,av,ov],.agg #[qv,.int .i64 s.2]] w fun e w'=>e=.returned (.bool (De f i s))∧Below w.heap.size w w':=by
 have hx:=al0 w (.cells #[fv,ev,pv,.int .i64 f.results,hv,sv,bv] 272 (0,0));generalize hW1:World.alloc w (.cells #[fv,ev,pv,.int .i64 f.results,hv,sv,bv] 272 (0,0))=W1 at hx;have hx2:=al0 W1 (.cells #[.int .i64 i.op,.int .i64 i.d,.int .i64 i.a,.int .i64 i.bb,.int .u64 i.n,.int .i64 i.f,av,ov] 110 (0,0));generalize hW2:World.alloc W1 (.cells #[.int .i64 i.op,.int .i64 i.d,.int .i64 i.a,.int .i64 i.bb,.int .u64 i.n,.int .i64 i.f,av,ov] 110 (0,0))=W2 at hx2;have hx3:=al0 W2 (.cells #[qv,.int .i64 s.2] 43 (0,0));have hs1:=hx.2.2;have hs2:=hx2.2.2;have hs3:=hx3.2.2;have hb12:=Zc hx.2.1 hx2.2.1 (by omega);have hb13:=Zc hb12 hx3.2.1 (by omega);have HH:=O (hh.below hb13);have HS:=O (hs.below hb13);have HA:=O (ha.below hb13);have HO:=O (ho.below hb13);have HQ:=O (hq.below hb13);have HW:=O hb13;have HR1:=O ((hx3.2.1.block w.heap.size (by omega)).trans ((hx2.2.1.block w.heap.size (by omega)).trans hx.1));have HR2:=O ((hx3.2.1.block (w.heap.size+1) (by omega)).trans (hs1 ▸ hx2.1));have hr3:=hx3.1;rw [hs2,hs1] at hr3 hs3;have HR3:=O hr3;have HZ:=O hs3;have hhl:f.homes.length<9223372036854775808:=hh.lt;have hol:i.outs.length<9223372036854775808:=ho.lt;obtain⟨ph,ch,rfl⟩:=hh.shape;obtain⟨ps,cs,rfl⟩:=hs.shape;obtain⟨pa,ca,rfl⟩:=ha.shape;obtain⟨po,co,rfl⟩:=ho.shape;obtain⟨pq,cq,rfl⟩:=hq.shape;clear hx hx2 hx3 hs1 hs2 hs3 hb12 hb13 hr3 hh hs ha ho hq;subst hW1 hW2;go_enter Tryz.func243,Tryz.ntmps243
 go_wp2_with fail
 generalize World.alloc (World.alloc (World.alloc w _) _) _=W at HH HS HA HO HQ HW HR1 HR2 HR3 HZ ⊢;refine(Zff f _ _ _ _ _ _ _ _ _ i.args s.1 W (J HH) (J HS) (J HA) (J HQ)).mono ?_;rintro e w2 ⟨rfl,hb⟩;have HB2:=O hb;have hz:=J HZ;have hri:=(hb.block (w.heap.size+1) (by omega)).trans (J HR2);have hrq:=(hb.block (w.heap.size+1+1) (by omega)).trans (J HR3);have hrs:=(hb.block w.heap.size (by omega)).trans (J HR1);have r7:=(cR hri 7);have q1:=(cR hrq 1);obtain⟨s0,s1,s2,s3,s4,s5,s6⟩:=cT7 hrs;clear hb hri hrq hrs hz;cases h1:Sc f i.args s.1 with
 | false=>have hx:=O (show De f i s=false by unfold De; rw [h1]; rfl);clear h1;go_wp2;go_ret;exact⟨by rw [J hx]; rfl,Zc (J HW) (J HB2) (by have:=J HZ; omega)⟩
 | true =>
  have H1:=O h1;clear h1;by_cases h2:(i.outs.length:Int)=s.2
  ·have z2:((i.outs.length:Int)==s.2)=true:=by simpa using h2
   go_wp2_with fail
   refine(Yg f _ _ _ _ _ _ _ _ i.outs w2 ⟨_,_,rfl⟩ hhl ((J HO).below (J HB2))).mono ?_;rintro e w3 ⟨rfl,hb⟩;have HB3:=O (Zc (J HB2) hb (J HB2).size);have hz:=J HZ;have hri:=((J HB3).block (w.heap.size+1) (by omega)).trans (J HR2);have r7:=(cR hri 7);clear hb hri hz;cases h3:Jp f i.outs with
   | false=>have hx:=O (show De f i s=false by unfold De; rw [h3]; simp);clear h3;go_wp2;go_ret;exact⟨by rw [J hx]; rfl,Zc (J HW) (J HB3) (by have:=J HZ; omega)⟩
   | true =>
    have H3:=O h3;have hl6:i.outs.length<=1000000:=by omega
    have H2:=O h2;clear h3 h2;go_wp2_with fail
    refine(Zlb _ i.outs w3 ((J HO).below (J HB3)) hl6).mono ?_;rintro e w4 ⟨rfl,h4'⟩;subst w4;have HT:=O (show De f i s=Zcn i.outs by unfold De; rw [J H1,J H3]; simp [J H2]);go_wp2;go_ret;exact⟨by rw [J HT]; rfl,Zc (J HW) (J HB3) (by have:=J HZ; omega)⟩
  ·have z2:((i.outs.length:Int)==s.2)=false:=by simpa using h2
   have hx:=O (show De f i s=false by unfold De; simp [h2]);clear h2;go_wp2;go_ret;exact⟨by rw [J hx]; rfl,Zc (J HW) (J HB2) (by have:=J HZ; omega)⟩
end Go.Proofs.YtkenknfgeoecbaaGreatDoor
