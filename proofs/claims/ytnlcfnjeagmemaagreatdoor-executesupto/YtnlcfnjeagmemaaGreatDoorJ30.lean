import Derived.Test.YtnlcfnjeagmemaaGreatDoorJ3
import Derived.Test.YtnlcfnjeagmemaaGreatDoorJ28
namespace Go.Proofs.YtnlcfnjeagmemaaGreatDoor
open Go.RowKit
set_option maxHeartbeats 4000000
set_option maxRecDepth 100000
theorem Zbv {x:Int}(h:0≤x)(h2:x<18446744073709551616):Xr x 0=x:=by
 unfold Xr;rw [show IntKind.u64.wrap 0=0 from by decide,Int.add_zero];exact Lb h h2
theorem Zpe (m:Zf)(h:Q0 m):{ m with kind:=1,code:=0 }=m.endK 1 []:=by
 cases m
 obtain⟨h1,h2,h3⟩:=h;simp only at h1 h2 h3;subst h1 h2 h3;rfl
section
variable {w:World} {A B N:Nat} {G:Ji} {eb rb sb:Nat} {a:Int} {m:Zf}
theorem Zae (h:ER w A B N G eb rb sb a m)(hz:Q0 m)(C:Zk)(hF:EF w B eb rb sb G C)(hfl:C.funcs.length<4611686018427387904)(f:Int) :
 Calls Tryz.prog 45 #[.pointer (some ⟨eb,0,none⟩),.int .i64 f] w fun e w'=>∃ a',e=.returned (.bool (m.enter C.funcs.length f).2)∧((m.enter C.funcs.length f).2=true→a'=Ja C f 0 0)∧ER w' A B N G eb rb sb a' (m.enter C.funcs.length f).1∧Ke w.heap.size eb rb sb w w':=by
 obtain⟨P,hei,-,-,-⟩:=h.regs;obtain⟨pf,cfc,hcf⟩:=hF.cf;have c13:w.cell? ⟨eb,13,none⟩=some (.slice pf C.funcs.length cfc):=by rw [← hcf]; exact(cR hei 13)
 have c22:w.cell? ⟨eb,22,none⟩=some (.int .i64 a):=(cR hei 22);have z22:=frozen_of_row _ _ 22 _ _ hei;obtain⟨⟨V,⟨p,c,hv,hc1,hc2,hat⟩,hV⟩,-,-⟩:=id hF;have c16:w.cell? ⟨eb,16,none⟩=some (.slice p C.funcs.length c):=by rw [← hv]; exact(cR hei 16)
 have HE:=Y h;have HF:=Y hF;have HAT:=Y hat;have HV:=Y hV;clear h hei hcf hv hat hV hF;by_cases hin:0≤f∧f<(C.funcs.length:Int)
 ·
  have hib:Nf f 0 ((C.funcs.length:Int)-1)=true:=decide_eq_true (by omega);have HQ:=Y (show m.enter C.funcs.length f=({ m with f:=f,bk:=0,at_:=0 },true) by unfold Zf.enter; rw [if_pos hin]);obtain⟨k,rfl⟩:∃ k:Nat,f=k:=⟨f.toNat,by omega⟩;have hk:k<C.funcs.length:=by omega
  obtain⟨g,so,hp,hg,-,-,-,d0⟩:=O HAT k hk;obtain⟨p2,c2,hv2,hc3,hc4,-⟩:=O HV k hk;subst hp;rw [hv2] at d0;have HNB:=Y (show(C.funcs.getD k []).length=(C.funcs.getD k []).length from rfl);by_cases h0:(C.funcs.getD k []).length=0
  ·
   have hb0:(((C.funcs.getD k []).length:Int)==0)=true:=by rw [h0]; rfl
   have HP:=Y (show Ja C (k:Int) 0 0=-1 from Zdk C _ _ _ (by rw [Int.toNat_natCast,h0]; omega));have H2:=Y (((O HE).at_ (-1)).goto (k:Int) 0 0);have K2:=Y (show Ke w.heap.size eb rb sb w _ from Sa (Zl eb 22 w (.int .i64 (-1))));generalize (C.funcs.getD k []).length=nb at d0 hc3 hc4 hb0;clear h0 hin HNB;go_enter Tryz.func45,Tryz.ntmps45
   go_wp2_with fail
   refine(Mq (k:Int) 0 ((C.funcs.length:Int)-1) w).mono ?_;rintro e w1 ⟨rfl,hw1⟩;subst w1;rw [hib];go_wp2;go_ret;rw [O HQ];exact⟨_,rfl,fun _=>(O HP).symm,O H2,O K2⟩
  ·
   have hb0:(((C.funcs.getD k []).length:Int)==0)=false:=by rw [beq_eq_false_iff_ne]; omega
   have HG:=Y (Zka (O HE) C (O HF) k 0 hk (by omega));generalize (C.funcs.getD k []).length=nb at d0 hc3 hc4 hb0;clear h0 hin HNB;go_enter Tryz.func45,Tryz.ntmps45
   go_wp2_with fail
   refine(Mq (k:Int) 0 ((C.funcs.length:Int)-1) w).mono ?_;rintro e w1 ⟨rfl,hw1⟩;subst w1;rw [hib];go_wp2_with fail
   refine(O HG).mono ?_;rintro e w2 ⟨rfl,h2,k2⟩;have H2:=Y (h2.goto (k:Int) 0 0);have K2:=Y k2;clear h2 k2 HG c13 c22 c16 d0;go_wp2;go_ret;rw [O HQ];exact⟨_,rfl,fun _=>rfl,O H2,O K2⟩
 ·
  have hib:Nf f 0 ((C.funcs.length:Int)-1)=false:=decide_eq_false (by omega);have HQ:=Y (show m.enter C.funcs.length f=(m.fault 1,false) by unfold Zf.enter; rw [if_neg hin]);clear hin;go_enter Tryz.func45,Tryz.ntmps45
  go_wp2_with fail
  refine(Mq f 0 ((C.funcs.length:Int)-1) w).mono ?_;rintro e w1 ⟨rfl,hw1⟩;subst w1;rw [hib];go_wp2_with fail
  refine(Mg (O HE) hz 1).mono ?_;rintro e w2 ⟨rfl,h2,k2⟩;have H2:=Y h2;have K2:=Y k2;clear h2 k2;go_wp2;go_ret;rw [O HQ];exact⟨_,rfl,(fun h=>by cases h),O H2,O K2⟩
theorem Kd (h:ER w A B N G eb rb sb a m)(C:Zk)(hF:EF w B eb rb sb G C)(f:Nat)(hf:f<C.funcs.length)(b:Int) :
 Calls Tryz.prog 51 #[.pointer (some ⟨eb,0,none⟩),.int .i64 (f:Int),.int .i64 b] w fun e w'=>e=.returned (.bool true)∧ER w' A B N G eb rb sb (Ja C (f:Int) b 0) m∧Ke w.heap.size eb rb sb w w':=by
 obtain⟨P,hei,-,-,-⟩:=h.regs;have c22:w.cell? ⟨eb,22,none⟩=some (.int .i64 a):=(cR hei 22);have z22:=frozen_of_row _ _ 22 _ _ hei;obtain⟨⟨V,⟨p,c,hv,hc1,hc2,hat⟩,hV⟩,-,-⟩:=id hF;have c16:w.cell? ⟨eb,16,none⟩=some (.slice p C.funcs.length c):=by rw [← hv]; exact(cR hei 16)
 obtain⟨g,so,hp,hg,-,-,-,d0⟩:=hat f hf;obtain⟨p2,c2,hv2,hc3,hc4,-⟩:=hV f hf;subst hp;rw [hv2] at d0;have HE:=Y h;have HF:=Y hF;clear h hei hv hat hV hF hv2;by_cases hin:0≤b∧b<((C.funcs.getD f []).length:Int)
 ·
  have hib:Nf b 0 (((C.funcs.getD f []).length:Int)-1)=true:=decide_eq_true (by omega);obtain⟨k,rfl⟩:∃ k:Nat,b=k:=⟨b.toNat,by omega⟩;have HG:=Y (Zka (O HE) C (O HF) f k hf (by omega));generalize (C.funcs.getD f []).length=nb at d0 hc3 hc4 hib;clear hin;go_enter Tryz.func51,Tryz.ntmps51
  go_wp2_with fail
  refine(Mq (k:Int) 0 ((nb:Int)-1) w).mono ?_;rintro e w1 ⟨rfl,hw1⟩;subst w1;rw [hib];go_wp2_with fail
  refine(O HG).mono ?_;rintro e w2 ⟨rfl,h2,k2⟩;have H2:=Y h2;have K2:=Y k2;clear h2 k2 HG c22 c16 d0;go_wp2;go_ret;exact⟨rfl,O H2,O K2⟩
 ·
  have hib:Nf b 0 (((C.funcs.getD f []).length:Int)-1)=false:=decide_eq_false (by omega);have HP:=Y (show Ja C (f:Int) b 0=-1 from Zdk C _ _ _ (by rw [Int.toNat_natCast]; exact hin));have H2:=Y ((O HE).at_ (-1));have K2:=Y (show Ke w.heap.size eb rb sb w _ from Sa (Zl eb 22 w (.int .i64 (-1))));generalize (C.funcs.getD f []).length=nb at d0 hc3 hc4 hib;clear hin;go_enter Tryz.func51,Tryz.ntmps51
  go_wp2_with fail
  refine(Mq b 0 ((nb:Int)-1) w).mono ?_;rintro e w1 ⟨rfl,hw1⟩;subst w1;rw [hib];go_wp2;go_ret;rw [O HP];exact⟨rfl,O H2,O K2⟩
end
set_option maxHeartbeats 4000000
set_option maxRecDepth 100000
theorem Uj {m:Zf}{x k v:Int}(hz:Q0 m)(h:(m.store x k v).2=true):Q0 (m.store x k v).1:=by
 unfold Zf.store at h ⊢;split at h
 ·
  rename_i hr;rw [if_pos hr];exact⟨hz.kind,hz.code,hz.vals⟩
 ·
  cases h
section
variable {w:World} {A B N:Nat} {G:Ji} {eb rb sb:Nat} {a:Int} {m:Zf}
theorem Zfl (h:ER w A B N G eb rb sb a m)(hz:Q0 m)(hT:TK G.T)(C:Zk)(hF:EF w B eb rb sb G C)(hfl:C.funcs.length<4611686018427387904)(f n:Int)(hn:0≤n∧n<18446744073709551616) :
 Calls Tryz.prog 29 #[.pointer (some ⟨eb,0,none⟩),.int .i64 f,.int .u64 n] w fun e w'=>∃ a',e=.returned (.bool (m.call G.T C.funcs.length f n).2)∧((m.call G.T C.funcs.length f n).2=true→a'=Ja C f 0 0)∧ER w' A B N G eb rb sb a' (m.call G.T C.funcs.length f n).1∧Ke w.heap.size eb rb sb w w':=by
 have hbd:=h.bd;have HAL:=Y (Zub h hz hT);go_enter Tryz.func29,Tryz.ntmps29
 go_wp2_with fail
 refine(O HAL).mono ?_;rintro e w1 ⟨rfl,h1,k1⟩;clear h HAL;cases hal:(m.aligned G.T).2 with
 | false =>
  have HQ:=Y (show m.call G.T C.funcs.length f n=((m.aligned G.T).1,false) by unfold Zf.call; rw [if_neg (by rw [hal]; decide)]);have H1:=Y h1;have K1:=Y k1;clear h1 k1;go_wp2;go_ret;rw [O HQ];exact⟨_,rfl,(fun h=>by cases h),O H1,O K1⟩
 | true =>
  rw [Zcw _ _ hal] at h1;have HQ0:=Y (show m.call G.T C.funcs.length f n=if (m.putN G.T n).2=true then (m.putN G.T n).1.enter C.funcs.length f else ((m.putN G.T n).1,false) by unfold Zf.call; rw [if_pos hal]);have HE1:=Y h1;have HK1:=Y k1;obtain⟨P,hei,hrv,-,hrg⟩:=h1.regs;have c2:w1.cell? ⟨eb,2,none⟩=some (.int .i64 G.T.lk):=(cR hei 2);rcases hT.lk with hlk | ⟨l0,l1,l2⟩
  ·
   rw [hlk] at c2;clear h1 k1 hal hei hrv hrg;go_wp2_with fail
   refine(Nh (O HE1) hT).mono ?_;rintro e w2 ⟨rfl,kk,hw2⟩;subst w2;have HMV:=Y (Sd ((O HE1).dr kk) hz hT (IntKind.u64.wrap (m.sp G.T-8)) (Mi _));clear c2;go_wp2_with fail
   refine(O HMV).mono ?_;rintro e w3 ⟨rfl,h3,k3⟩;have HK3:=Y (((O HK1).dr kk).tr (k3.low (show w.heap.size≤w1.heap.size from(O HK1).size)));cases hsp:(m.setSP G.T (IntKind.u64.wrap (m.sp G.T-8))).2 with
   | false =>
    have HQ:=Y (show m.call G.T C.funcs.length f n=((m.setSP G.T (IntKind.u64.wrap (m.sp G.T-8))).1,false) by
     have:m.putN G.T n=((m.setSP G.T (IntKind.u64.wrap (m.sp G.T-8))).1,false):=by unfold Zf.putN; rw [if_pos hlk,if_neg (by rw [hsp]; decide)]
     rw [O HQ0,this];rfl)
    have H3:=Y h3;clear h3 k3 HMV;go_wp2;go_ret;rw [O HQ];exact⟨_,rfl,(fun h=>by cases h),O H3,O HK3⟩
   | true =>
    have hz3:=Ui hz hsp;have HPN:=Y (show m.putN G.T n=(m.setSP G.T (IntKind.u64.wrap (m.sp G.T-8))).1.store ((m.setSP G.T (IntKind.u64.wrap (m.sp G.T-8))).1.sp G.T) 8 n by unfold Zf.putN; rw [if_pos hlk,if_pos hsp]);have HE3:=Y h3;clear h3 k3 HMV hsp hlk;generalize (m.setSP G.T (IntKind.u64.wrap (m.sp G.T-8))).1=m3 at hz3 HPN HE3;go_wp2_with fail
    refine(Nh (O HE3) hT).mono ?_;rintro e w4 ⟨rfl,k4,hw4⟩;subst w4;have hsb:0≤m3.sp G.T∧m3.sp G.T<18446744073709551616:=(O HE3).rgb G.T.spN;have HST:=Y (Uh ((O HE3).dr k4) hz3 (m3.sp G.T) 0 8 n hn);rw [Zbv hsb.1 hsb.2] at HST;go_wp2_with fail
    refine(O HST).mono ?_;rintro e w5 ⟨rfl,h5,k5⟩;have HK5:=Y (((O HK3).dr k4).tr (k5.low (show w.heap.size≤w3.heap.size from(O HK3).size)));cases hso:(m3.store (m3.sp G.T) 8 n).2 with
    | false =>
     have HQ:=Y (show m.call G.T C.funcs.length f n=((m3.store (m3.sp G.T) 8 n).1,false) by
      rw [O HQ0,O HPN,if_neg (by rw [hso]; decide)])
     have H5:=Y h5;clear h5 k5 HST;go_wp2;go_ret;rw [O HQ];exact⟨_,rfl,(fun h=>by cases h),O H5,O HK5⟩
    | true =>
     have hz5:=Uj hz3 hso;have HQ:=Y (show m.call G.T C.funcs.length f n=(m3.store (m3.sp G.T) 8 n).1.enter C.funcs.length f by rw [O HQ0,O HPN,if_pos hso]);have HE5:=Y h5;clear h5 k5 HST hso;generalize (m3.store (m3.sp G.T) 8 n).1=m5 at hz5 HQ HE5;have HLP:=Y (Zae (O HE5) (hz5) C (hF.ke ((O HK5).low hbd.2.2.2.2.2.2)) hfl f);go_wp2_with fail
     refine(O HLP).mono ?_;rintro e w9 ⟨a9,rfl,hat9,h9,k9⟩;have H9:=Y h9;have K9:=Y ((O HK5).tr (k9.low (O HK5).size));have HA9:=Y hat9;clear h9 k9 hat9 HLP;go_wp2;go_ret;rw [O HQ];exact⟨_,rfl,O HA9,O H9,O K9⟩
  ·
   obtain⟨l,hl⟩:∃ l:Nat,G.T.lk=l:=⟨G.T.lk.toNat,by omega⟩;have hr1:l<G.T.r.toNat:=by omega
   have HQ:=Y (show m.call G.T C.funcs.length f n=({ m with rg:=Yy m.rg l n }:Zf).enter C.funcs.length f by
    have:m.putN G.T n=({ m with rg:=Yy m.rg l n },true):=by
     unfold Zf.putN Zf.setR;rw [if_neg (by omega),if_neg (by have:=hT.sp; omega),show G.T.lk.toNat=l by omega]
    rw [O HQ0,this,if_pos rfl])
   rw [hl] at c2;have hl0:(0:Int)≤(l:Int):=by omega
   have c19:w1.cell? ⟨eb,19,none⟩=some (.slice (some ⟨rb,0,none⟩) G.T.r.toNat G.T.r.toNat):=by rw [← hrv]; exact(cR hei 19)
   have cr:=hrg l hr1;obtain⟨P1,es1,hP⟩:=h1;have zr:=frozen_of_row _ _ l _ _ hP.rg;have hr2:(l:Int)<(G.T.r.toNat:Int):=by omega
   have HP:=Y hP;generalize G.T.r.toNat=rn at c19 hr1 hr2;clear hP l1 l2 hei hrv hrg hal k1 l0;go_upto_region 4 with fail
   refine Zh (C:=fun V=>∃ k,V=w1.drewN k) (d:=11) (by kernel_rfl) ?_;change Ye _ _ _ _ _ _ _ _ _ (w1.drewN 1)
   refine vE 0 ?_;refine vE 1 ?_;refine vE 2 ?_;refine vE 3 ?_;refine vE 4 ?_;refine vE 5 ?_;refine vE 6 ?_;refine vE 7 ?_;refine vE 8 ?_;refine vE 9 ?_;refine vE 10 ?_;refine vO 11 fun K hK=>?_;go_simp;refine kO hK (fun hx=>by cases hx) ?_;clear hK K;refine Zi (by kernel_rfl) ?_ _;have HE5:=Y (show ER _ A B N G eb rb sb a { m with rg:=Yy m.rg l n } from⟨P1,es1,((O HP).dr 1).reg l n hn⟩);have HK5:=Y (show Ke w.heap.size eb rb sb w _ from((O HK1).dr 1).tr (Zax (Zl rb l (w1.drewN 1) (.int .u64 n))));have hz5:Q0 { m with rg:=Yy m.rg l n }:=⟨hz.kind,hz.code,hz.vals⟩;clear c2 c19 cr zr HP;generalize World.setCell (w1.drewN 1) _ _=U at HE5 HK5 ⊢;have HLP:=Y (Zae (O HE5) (hz5) C (hF.ke ((O HK5).low hbd.2.2.2.2.2.2)) hfl f);go_wp2_with fail
   refine(O HLP).mono ?_;rintro e w9 ⟨a9,rfl,hat9,h9,k9⟩;have H9:=Y h9;have K9:=Y ((O HK5).tr (k9.low (O HK5).size));have HA9:=Y hat9;clear h9 k9 hat9 HLP;go_wp2;go_ret;rw [O HQ];exact⟨_,rfl,O HA9,O H9,O K9⟩
end
set_option maxHeartbeats 4000000
set_option maxRecDepth 100000
theorem Zpf (C:Zk)(j:Nat)(h:j<(Zg C).length):(Lg C).getD j 0=Ja C ((Zg C).getD j (0,0,0)).1 ((Zg C).getD j (0,0,0)).2.1 ((Zg C).getD j (0,0,0)).2.2:=by
 unfold Lg;simp [List.getD,h]
theorem Gq {m:Zf}{x k:Int}{v:Int}(h:(m.load x k).2=some v):(m.load x k).1=m:=by
 unfold Zf.load at h ⊢;split at h
 ·
  rename_i hr; rw [if_pos hr]
 ·
  cases h
def CmP (w:World)(A B N:Nat)(G:Ji)(eb rb sb:Nat)(p:Int)(x:Zf)(e:Ending)(w':World):Prop:=∃ b a',e=.returned (.bool b)∧(x.kind=0→a'=p)∧ER w' A B N G eb rb sb a' x∧Ke w.heap.size eb rb sb w w'
section
variable {w:World} {A B N:Nat} {G:Ji} {eb rb sb:Nat} {a:Int} {m:Zf}
theorem Zsf (h:ER w A B N G eb rb sb a m){x:Int}{v:Int}(hv:(m.load x 8).2=some v):0≤v∧v<18446744073709551616:=by
 unfold Zf.load at hv;split at hv
 ·
  injection hv with hv;rw [← hv];obtain⟨P,es,h⟩:=h;exact ldX h.byt _ _ (by decide)
 ·
  cases hv
theorem Zpg (h:ER w A B N G eb rb sb a m)(hz:Q0 m)(hT:TK G.T)(C:Zk)(hF:EF w B eb rb sb G C) :
 Calls Tryz.prog 52 #[.pointer (some ⟨eb,0,none⟩)] w (CmP w A B N G eb rb sb (Yx C (Gk G.T C m)) (Gk G.T C m)):=by
 have hbd:=h.bd;have HF:=Y hF;obtain⟨P,hei,hrv,-,hrg⟩:=h.regs;have c2:w.cell? ⟨eb,2,none⟩=some (.int .i64 G.T.lk):=(cR hei 2);have HE:=Y h;rcases hT.lk with hlk | ⟨l0,l1,l2⟩
 ·
  rw [hlk] at c2;have hsb:0≤m.sp G.T∧m.sp G.T<18446744073709551616:=h.rgb G.T.spN;clear hei hrv hrg hF;go_enter Tryz.func52,Tryz.ntmps52
  go_wp2_with fail
  refine(Nh (O HE) hT).mono ?_;rintro e w1 ⟨rfl,k1,hw1⟩;subst w1;have HLD:=Y (Sc ((O HE).dr k1) hz (m.sp G.T) 0 8);rw [Zbv hsb.1 hsb.2] at HLD;clear c2;go_wp2_with fail
  refine(O HLD).mono ?_;rintro e w2 ⟨rfl,h2,k2⟩;have HK2:=Y (((Ke.rf w.heap.size eb rb sb w).dr k1).tr k2);unfold Ly;cases hld:(m.load (m.sp G.T) 8).2 with
  | none =>
   have HQ:=Y (show Gk G.T C m=(m.load (m.sp G.T) 8).1 by
    have:m.takeN G.T=((m.load (m.sp G.T) 8).1,none):=by unfold Zf.takeN; rw [if_pos hlk,if_neg (by rw [hld]; decide)]
    unfold Gk;rw [this])
   have HKD:=Y (show(m.load (m.sp G.T) 8).1.kind≠0 by
    unfold Zf.load at hld ⊢;split at hld
    ·
     cases hld
    ·
     rename_i hr;rw [if_neg hr];exact Zad (by simpa using hr))
   have H2:=Y h2;clear h2 k2 HLD hld h;simp only [Option.isSome_none,Option.getD_none];go_wp2;go_ret;rw [O HQ];exact⟨_,_,rfl,fun hk=>absurd hk (O HKD),O H2,O HK2⟩
  | some n =>
   rw [Gq hld] at h2;have hn:=Zsf h hld;have HLS:=Y (Gq hld);have HE2:=Y h2;have HLDE:=Y hld;clear h2 k2 HLD hld h;simp only [Option.isSome_some,Option.getD_some];go_wp2_with fail
   refine(Nh (O HE2) hT).mono ?_;rintro e w3 ⟨rfl,k3,hw3⟩;subst w3;have HMV:=Y (Sd ((O HE2).dr k3) hz hT (IntKind.u64.wrap (m.sp G.T+8)) (Mi _));go_wp2_with fail
   refine(O HMV).mono ?_;rintro e w4 ⟨rfl,h4,k4⟩;have HK4:=Y (((O HK2).dr k3).tr (k4.low (show w.heap.size≤w2.heap.size from(O HK2).size)));have HTK:=Y (show m.takeN G.T=((m.setSP G.T (IntKind.u64.wrap (m.sp G.T+8))).1,if (m.setSP G.T (IntKind.u64.wrap (m.sp G.T+8))).2=true then some n else none) by
    unfold Zf.takeN;rw [if_pos hlk,if_pos (by rw [O HLDE]; rfl),O HLS,O HLDE])
   cases hsp:(m.setSP G.T (IntKind.u64.wrap (m.sp G.T+8))).2 with
   | false =>
    have HQ:=Y (show Gk G.T C m=(m.setSP G.T (IntKind.u64.wrap (m.sp G.T+8))).1 by
     unfold Gk;rw [O HTK,if_neg (by rw [hsp]; decide)])
    have HKD:=Y (show(m.setSP G.T (IntKind.u64.wrap (m.sp G.T+8))).1.kind≠0 by
     unfold Zf.setSP at hsp ⊢;split at hsp
     ·
      rename_i h1; rw [if_pos h1]; show(4:Int)≠0; decide
     split at hsp
     ·
      rename_i h1 h2; rw [if_neg h1,if_pos h2]; show(5:Int)≠0; decide
     ·
      cases hsp)
    have H4:=Y h4;clear h4 k4 HMV;go_wp2;go_ret;rw [O HQ];exact⟨_,_,rfl,fun hk=>absurd hk (O HKD),O H4,O HK4⟩
   | true =>
    have hz4:=Ui hz hsp;have HR:=Y (show Gk G.T C m=if n=0 then (m.setSP G.T (IntKind.u64.wrap (m.sp G.T+8))).1.endK 1 [] else if ((Zg C).length:Int)<n then (m.setSP G.T (IntKind.u64.wrap (m.sp G.T+8))).1.fault 4 else { (m.setSP G.T (IntKind.u64.wrap (m.sp G.T+8))).1 with f:=((Zg C).getD (n.toNat-1) (0,0,0)).1,bk:=((Zg C).getD (n.toNat-1) (0,0,0)).2.1,at_:=((Zg C).getD (n.toNat-1) (0,0,0)).2.2 } by
     unfold Gk;rw [O HTK,if_pos hsp])
    have HE4:=Y h4;clear h4 k4 HMV hsp HTK;generalize (m.setSP G.T (IntKind.u64.wrap (m.sp G.T+8))).1=m4 at hz4 HR HE4;obtain⟨PT9,hei9,-,-,-⟩:=(O HE4).regs;obtain⟨bp,bc,hbk,hbc1,hbc2,hbat⟩:=(O HF).bk.ke ((O HK4).low hbd.2.2.2.2.2.2);have c17:w4.cell? ⟨eb,17,none⟩=some (.slice bp (Zg C).length bc):=by rw [← hbk]; exact(cR hei9 17)
    have c22:w4.cell? ⟨eb,22,none⟩=some (.int .i64 a):=(cR hei9 22);have z22:=frozen_of_row _ _ 22 _ _ hei9;have HBAT:=Y hbat;clear hei9 hbk hbat;by_cases hn0:n=0
    ·
     have hnb:(n==0)=true:=by rw [hn0]; rfl
     have HQ:=Y (show Gk G.T C m=m4.endK 1 [] by rw [O HR,if_pos hn0]);have HEN:=Y (Uz (O HE4) hz4.kind 1 0);rw [Zpe _ hz4] at HEN;clear hn0;go_wp2_with fail
     refine(O HEN).mono ?_;rintro e w8 ⟨rfl,h8,k8⟩;have H8:=Y h8;have K8:=Y ((O HK4).tr (k8.low (O HK4).size));clear h8 k8 HEN c17 c22 z22;go_wp2;go_ret;rw [O HQ];exact⟨_,_,rfl,(fun h=>by cases h),O H8,O K8⟩
    ·
     have hnb:(n==0)=false:=by rw [beq_eq_false_iff_ne]; exact hn0
     have hlw:IntKind.u64.wrap ((Zg C).length:Int)=((Zg C).length:Int):=Lb (by omega) (by omega);by_cases hgt:((Zg C).length:Int)<n
     ·
      have HQ:=Y (show Gk G.T C m=m4.fault 4 by rw [O HR,if_neg hn0,if_pos hgt]);have HEN:=Y (Mg (O HE4) hz4 4);clear hn0;go_wp2_with fail
      refine(O HEN).mono ?_;rintro e w8 ⟨rfl,h8,k8⟩;have H8:=Y h8;have K8:=Y ((O HK4).tr (k8.low (O HK4).size));clear h8 k8 HEN c17 c22 z22;go_wp2;go_ret;rw [O HQ];exact⟨_,_,rfl,(fun h=>by cases h),O H8,O K8⟩
     ·
      obtain⟨j,hj⟩:∃ j:Nat,n=(j:Int)+1:=⟨(n-1).toNat,by omega⟩;have hjl:j<(Zg C).length:=by omega
      have HQ:=Y (show Gk G.T C m={ m4 with f:=((Zg C).getD j (0,0,0)).1,bk:=((Zg C).getD j (0,0,0)).2.1,at_:=((Zg C).getD j (0,0,0)).2.2 } by rw [O HR,if_neg hn0,if_neg hgt,show n.toNat-1=j by omega]);obtain⟨g,so,hp,-,-,-,-,d9⟩:=O HBAT j hjl;subst hp;have d0:=d9.trans (congrArg (fun x=>some (Value.int .i64 x)) (Zpf C j hjl));clear d9;have hsub:IntKind.u64.wrap (n-1)=(j:Int):=by rw [hj,show(j:Int)+1-1=j by omega]; exact Lb (by omega) (by omega)
      have H8:=Y (((O HE4).at_ (Ja C ((Zg C).getD j (0,0,0)).1 ((Zg C).getD j (0,0,0)).2.1 ((Zg C).getD j (0,0,0)).2.2)).goto ((Zg C).getD j (0,0,0)).1 ((Zg C).getD j (0,0,0)).2.1 ((Zg C).getD j (0,0,0)).2.2);have K8:=Y ((O HK4).tr (show Ke w.heap.size eb rb sb w4 _ from Sa (Zl eb 22 w4 (.int .i64 (Ja C ((Zg C).getD j (0,0,0)).1 ((Zg C).getD j (0,0,0)).2.1 ((Zg C).getD j (0,0,0)).2.2)))));have hjI:(j:Int)<((Zg C).length:Int):=by omega
      generalize hq9:Ja C ((Zg C).getD j (0,0,0)).1 ((Zg C).getD j (0,0,0)).2.1 ((Zg C).getD j (0,0,0)).2.2=q9 at d0 H8 K8;have HQ9:=Y hq9;clear hn0 hj hq9;go_wp2;go_ret;rw [O HQ];exact⟨_,_,rfl,fun _=>(O HQ9).symm,O H8,O K8⟩
 ·
  obtain⟨l,hl⟩:∃ l:Nat,G.T.lk=l:=⟨G.T.lk.toNat,by omega⟩;have hr1:l<G.T.r.toNat:=by omega
  rw [hl] at c2;have hl0:(0:Int)≤(l:Int):=by omega
  have c19:w.cell? ⟨eb,19,none⟩=some (.slice (some ⟨rb,0,none⟩) G.T.r.toNat G.T.r.toNat):=by rw [← hrv]; exact(cR hei 19)
  have cr:=hrg l hr1;have hr2:(l:Int)<(G.T.r.toNat:Int):=by omega
  obtain⟨n,hnE⟩:∃ n,m.rg l=n:=⟨_,rfl⟩;have hn:0≤n∧n<18446744073709551616:=by rw [← hnE]; exact h.rgb l
  have HR:=Y (show Gk G.T C m=if n=0 then m.endK 1 [] else if ((Zg C).length:Int)<n then m.fault 4 else { m with f:=((Zg C).getD (n.toNat-1) (0,0,0)).1,bk:=((Zg C).getD (n.toNat-1) (0,0,0)).2.1,at_:=((Zg C).getD (n.toNat-1) (0,0,0)).2.2 } by
   have:m.takeN G.T=(m,some n):=by unfold Zf.takeN; rw [if_neg (by omega),show G.T.lk.toNat=l by omega,hnE]
   unfold Gk;rw [this])
  rw [hnE] at cr;generalize G.T.r.toNat=rn at c19 hr1 hr2;clear hei hrv hrg l1 l2 l0 hF hnE h;go_enter Tryz.func52,Tryz.ntmps52
  go_wp2;go_quiet (fail)
  have HE4:=Y ((O HE).dr nq);have HK4:=Y ((Ke.rf w.heap.size eb rb sb w).dr nq);clear c2 c19 cr;generalize w.drewN nq=w4 at HE4 HK4 ⊢;obtain⟨PT9,hei9,-,-,-⟩:=(O HE4).regs;obtain⟨bp,bc,hbk,hbc1,hbc2,hbat⟩:=(O HF).bk.ke ((O HK4).low hbd.2.2.2.2.2.2);have c17:w4.cell? ⟨eb,17,none⟩=some (.slice bp (Zg C).length bc):=by rw [← hbk]; exact(cR hei9 17)
  have c22:w4.cell? ⟨eb,22,none⟩=some (.int .i64 a):=(cR hei9 22);have z22:=frozen_of_row _ _ 22 _ _ hei9;have HBAT:=Y hbat;clear hei9 hbk hbat;by_cases hn0:n=0
  ·
   have hnb:(n==0)=true:=by rw [hn0]; rfl
   have HQ:=Y (show Gk G.T C m=m.endK 1 [] by rw [O HR,if_pos hn0]);have HEN:=Y (Uz (O HE4) hz.kind 1 0);rw [Zpe _ hz] at HEN;clear hn0;go_wp2_with fail
   refine(O HEN).mono ?_;rintro e w8 ⟨rfl,h8,k8⟩;have H8:=Y h8;have K8:=Y ((O HK4).tr (k8.low (O HK4).size));clear h8 k8 HEN c17 c22 z22;go_wp2;go_ret;rw [O HQ];exact⟨_,_,rfl,(fun h=>by cases h),O H8,O K8⟩
  ·
   have hnb:(n==0)=false:=by rw [beq_eq_false_iff_ne]; exact hn0
   have hlw:IntKind.u64.wrap ((Zg C).length:Int)=((Zg C).length:Int):=Lb (by omega) (by omega);by_cases hgt:((Zg C).length:Int)<n
   ·
    have HQ:=Y (show Gk G.T C m=m.fault 4 by rw [O HR,if_neg hn0,if_pos hgt]);have HEN:=Y (Mg (O HE4) hz 4);clear hn0;go_wp2_with fail
    refine(O HEN).mono ?_;rintro e w8 ⟨rfl,h8,k8⟩;have H8:=Y h8;have K8:=Y ((O HK4).tr (k8.low (O HK4).size));clear h8 k8 HEN c17 c22 z22;go_wp2;go_ret;rw [O HQ];exact⟨_,_,rfl,(fun h=>by cases h),O H8,O K8⟩
   ·
    obtain⟨j,hj⟩:∃ j:Nat,n=(j:Int)+1:=⟨(n-1).toNat,by omega⟩;have hjl:j<(Zg C).length:=by omega
    have HQ:=Y (show Gk G.T C m={ m with f:=((Zg C).getD j (0,0,0)).1,bk:=((Zg C).getD j (0,0,0)).2.1,at_:=((Zg C).getD j (0,0,0)).2.2 } by rw [O HR,if_neg hn0,if_neg hgt,show n.toNat-1=j by omega]);obtain⟨g,so,hp,-,-,-,-,d9⟩:=O HBAT j hjl;subst hp;have d0:=d9.trans (congrArg (fun x=>some (Value.int .i64 x)) (Zpf C j hjl));clear d9;have hsub:IntKind.u64.wrap (n-1)=(j:Int):=by rw [hj,show(j:Int)+1-1=j by omega]; exact Lb (by omega) (by omega)
    have H8:=Y (((O HE4).at_ (Ja C ((Zg C).getD j (0,0,0)).1 ((Zg C).getD j (0,0,0)).2.1 ((Zg C).getD j (0,0,0)).2.2)).goto ((Zg C).getD j (0,0,0)).1 ((Zg C).getD j (0,0,0)).2.1 ((Zg C).getD j (0,0,0)).2.2);have K8:=Y ((O HK4).tr (show Ke w.heap.size eb rb sb w4 _ from Sa (Zl eb 22 w4 (.int .i64 (Ja C ((Zg C).getD j (0,0,0)).1 ((Zg C).getD j (0,0,0)).2.1 ((Zg C).getD j (0,0,0)).2.2)))));have hjI:(j:Int)<((Zg C).length:Int):=by omega
    generalize hq9:Ja C ((Zg C).getD j (0,0,0)).1 ((Zg C).getD j (0,0,0)).2.1 ((Zg C).getD j (0,0,0)).2.2=q9 at d0 H8 K8;have HQ9:=Y hq9;clear hn0 hj hq9;go_wp2;go_ret;rw [O HQ];exact⟨_,_,rfl,fun _=>(O HQ9).symm,O H8,O K8⟩
end
set_option maxHeartbeats 4000000
set_option maxRecDepth 100000
def GvP (w:World)(A B N:Nat)(G:Ji)(eb rb sb:Nat)(a:Int)(r:Zf×Option (List Int))(e:Ending)(w':World):Prop:=∃ v,e=.returned (.tuple #[v,.bool r.2.isSome])∧(∀ ws,r.2=some ws→w'.ownsRow w.heap.size 62 1 v ws.length (uC ws)∧ws.length≤64)∧ER w' A B N G eb rb sb a r.1∧Ke w.heap.size eb rb sb w w'
theorem Zvv {w w':World}{A N a b c:Nat}{v:Value}{ns:List Int}(h:Lj w A v ns)(k:Ke N a b c w w')(hN:A≤N)(ha:A≤a)(hb:A≤b)(hc:A≤c):Lj w' A v ns:=by
 rcases h with h | ⟨g,so,cap,hv,hg,hcc⟩
 ·
  exact .inl h
 ·
  exact .inr ⟨g,so,cap,hv,hg,fun i hi=>(Yp (k.oth g (by omega) (by omega) (by omega) (by omega))).trans (hcc i hi)⟩
theorem Zda {w0 V:World}{L a b c:Nat}{av rv:Value}{l:Yc}{pvs:List Value}(h:Yo w0 L av rv l pvs)(k:Ke w0.heap.size a b c w0 V)(ha:a<L)(hb:b<L)(hc:c<L):Yo V L av rv l pvs :=
 ⟨h.len,Gp h.args k (fun g hg=>(h.args.lt g hg).2) ha hb hc,fun i hi=>Gp (h.each i hi) k (fun g hg=>((h.each i hi).lt g hg).2) ha hb hc,Gp h.res k (fun g hg=>(h.res.lt g hg).2) ha hb hc⟩
theorem Dw {T:Zm}{m:Zf}{p:Int×Int}{v:Int}(h:(m.read T p).2=some v):(m.read T p).1=m:=by
 unfold Zf.read at h ⊢;split at h
 ·
  rename_i hp;rw [if_pos hp];exact Gq h
 ·
  rename_i hp;rw [if_neg hp]
section
variable {w:World} {A B N:Nat} {G:Ji} {eb rb sb:Nat} {a:Int} {m:Zf}
theorem Zph (h:ER w A B N G eb rb sb a m)(hz:Q0 m)(hT:TK G.T)(l:Yc)(av rv:Value)(pvs:List Value)(L:Nat)(hL:Yo w L av rv l pvs)(heL:eb<L)(hrL:rb<L)(hsL:sb<L)(ps:List Int)(nr:Int)(hk:LyK G.T ps nr.toNat l)(lp:Option Addr)(lc:Nat)(hp:Lj w A (.slice lp ps.length lc) ps)(hp8:ps.length≤8) :
 Calls Tryz.prog 68 #[.pointer (some ⟨eb,0,none⟩),.agg #[.slice lp ps.length lc,.int .i64 nr],.agg #[av,rv,.int .i64 l.size,.int .i64 l.copies]] w (GvP w A B N G eb rb sb a (Zo G.T m (Ng l.args ps) [])):=by
 obtain⟨ti,hti,hty0,hty1,hty2⟩:=Yr Tryz.infoU64;obtain⟨ap,ac,rfl⟩:=Ze hL.args;obtain⟨r0,hb0,hz0⟩:=Zs w (.cells #[.slice lp ps.length lc,.int .i64 nr] 59 (0,0));obtain⟨r1,hb1,hz1⟩:=Zs (w.alloc (.cells #[.slice lp ps.length lc,.int .i64 nr] 59 (0,0))) (.cells #[.slice ap l.args.length ac,rv,.int .i64 l.size,.int .i64 l.copies] 76 (0,0));have hbd:=h.bd;have hB:=Zb hb0 hb1 (by omega);have HM:=Y (h.bel hB);have HK:=Y (show Ke w.heap.size eb rb sb w _ from Dm hB);have HR0:=Y ((hb1.block _ (by omega)).trans r0);have HR1:=Y (show _ from r1);rw [hz0] at HR1;have HL:=Y (fun(V:World) (k:Ke w.heap.size eb rb sb w V)=>Zda hL k heL hrL hsL);have HP:=Y (fun(V:World) (k:Ke w.heap.size eb rb sb w V)=>show Lj V A (.slice lp ps.length lc) ps from Zvv hp k (by omega) hbd.1 hbd.2.1 hbd.2.2.1);have HLK:=Y hk;have HZW:=Y (hz1.trans (congrArg (·+1) hz0));have HAL:=Y hk.args;have hNw:=h.nb.2;clear r0 hb0 r1 hb1 h hL hp hk hz0 hz1 hB;go_enter Tryz.func68,Tryz.ntmps68
 go_upto_region 2 with fail
 generalize World.alloc (w.alloc _) _=W at HM HK HR0 HR1 HZW ⊢;have c0:W.cell? ⟨w.heap.size+1,0,none⟩=some (.slice ap l.args.length ac):=(cR (O HR1) 0);go_wp2_with fail
 clear c0;go_loopw [22,8] (fun s22 s8 V=>∃(k:Nat) (v:Value) (acc:List Int),s22=.int .i64 k∧s8=v∧k≤l.args.length∧V.ownsRow W.heap.size 62 1 v acc.length (uC acc)∧ER V A B N G eb rb sb a m∧Ke W.heap.size eb rb sb W V∧Zo G.T m (Ng l.args ps) []=Zo G.T m (rdK l.args ps k) acc∧acc.length≤8*k) (fun s22 _ _=>l.args.length-(intOf s22).toNat)
 case atStart=>exact⟨0,_,[],rfl,rfl,by omega,World.ownsRow_nil _ _ _ _,O HM,Ke.rf _ _ _ _ _,by rw [Zey],by simp⟩
 case round =>
  obtain⟨k,v0,acc,rfl,rfl,hk,how,hmr,hkx,hco,hac⟩:=hrel;obtain⟨vp,vc,rfl⟩:=Ze how;have hKw:Ke w.heap.size eb rb sb w wr:=(O HK).tr (hkx.low (by have:=O HZW; omega));by_cases hk2:k<l.args.length
  ·
   have hal:=O HAL;have hLy:=O HL wr hKw;obtain⟨g,gc,e1,hLg,hgs,d0,d1,d2⟩:=Zcl hLy hk2;have HPk:=Y (hLy.each k hk2);injection e1 with f1 f2 f3;subst f1;have hLK:=O HLK;have HPL:=Y (hLK.pl k (by omega));have HONE:=Y (hLK.one k (by omega));have HALL:=Y (hLK.all k (by omega));have hp8k:=hLK.p8 k (by omega);obtain⟨gp,sop,hpp,hgA,hpc⟩:=(O HP wr hKw).at (k:=k) (by omega);have e0:=hpc k (by omega);have e2:wr.cell? ⟨w.heap.size,0,none⟩=some (.slice lp ps.length lc):=(cR ((hkx.oth w.heap.size (by have:=O HZW; omega) (by omega) (by omega) (by omega)).trans (O HR0)) 0);rw [hpp] at e2;have HCO:=Y (show Zo G.T m (Ng l.args ps) []=Zo G.T m (rdJ (l.args.getD k Xs) (Dh ps k) 0++rdK l.args ps (k+1)) acc by rw [hco,Zez _ _ _ hk2]);have hcw8:Dh ps k≤8:=by unfold Dh; omega
   have hcw1:1≤Dh ps k:=by unfold Dh; omega
   have HCW:=Y (show(Dh ps k:Nat)=(max (ps.getD k 0) 1).toNat from rfl);generalize Dh ps k=c at hcw8 hcw1 HCO HCW;generalize ps.getD k 0=pz at e0 HONE HALL hp8k HCW;have hpv:=Ze (O HPk);generalize pvs.getD k undef=pv at d0 HPk hpv;generalize l.args.getD k Xs=x at d1 d2 HPk HPL HONE HALL HCO hpv;obtain⟨qp,qc,rfl⟩:=hpv;have hkp:k<ps.length:=by omega
   clear hal;have HOW:=Y how;have HMR:=Y hmr;have HKX:=Y hkx;have hzr:=hkx.size;obtain⟨hra,hba,hsa⟩:=Zs wr (.cells #[.slice qp x.pl.length qc,.bool x.ref,.int .i64 x.at_] 87 (0,0));have HRA:=Y hra;have HBA:=Y hba;have HSA:=Y hsa;have HWZ:=Y (show w.heap.size+2=W.heap.size from(O HZW).symm);have e0':=(World.cell?_of_block (hba.block gp (World.block_lt_of_cell? wr _ e0))).trans e0;have e2':=(World.cell?_of_block (hba.block w.heap.size (World.block_lt_of_cell? wr _ e2))).trans e2;have HMA:=Y (hmr.al (.cells #[.slice qp x.pl.length qc,.bool x.ref,.int .i64 x.at_] 87 (0,0)));have HOWA:=Y (Yn how fun g hg=>hba.block g (how.lt g hg).2);have HPA:=Y (Gp (O HPk) (Dm (a:=eb) (b:=rb) (c:=sb) hba) (fun g hg=>((O HPk).lt g hg).2) heL hrL hsL);have HKA:=Y (hkx.tr ((Dm (a:=eb) (b:=rb) (c:=sb) hba).low hzr));clear how hmr hkx hLy f2 f3 hLK hpc hpp hco hKw hra hba hsa;cases hxr:x.ref with
   | true =>
    have HX:=Y hxr;obtain⟨ho1,hpz,-,-⟩:=O HONE hxr;obtain⟨g5,cg5,e5,-,p0,p1⟩:=Gv (O HPk) (k:=0) (by omega);injection e5 with f1 f2 f3;subst f1;have hpk:=O HPL _ (Je (l:=x.pl) (i:=0) (by omega));obtain⟨z,hzE⟩:∃ z:Nat,pz=z:=⟨pz.toNat,by omega⟩;subst hzE;have hzc:c=z:=by have:=O HCW; omega
    subst hzc;have HWO:=Y (fun j=>show m.wordOf G.T x j=if (m.read G.T (x.pl.getD 0 (0,0))).2.isSome=true then (m.read G.T (x.pl.getD 0 (0,0))).1.load (IntKind.u64.wrap ((m.read G.T (x.pl.getD 0 (0,0))).2.getD 0+8*(j:Int))) 8 else ((m.read G.T (x.pl.getD 0 (0,0))).1,none) by unfold Zf.wordOf; rw [if_neg (by rw [O HX]; decide)]);simp only [Nat.zero_mul,Nat.zero_add] at p0 p1;generalize x.pl.getD 0 (0,0)=p at p0 p1 hpk HWO;obtain⟨pa,pb⟩:=p;simp only at p0 p1;have hpa:pa=-1∨0≤pa∧pa<G.T.r:=by rcases hpk with h | h <;> simp only at h <;> omega
    have hxl:0<x.pl.length:=by omega
    have HRD:=Y (Zjz (O HMA) hz hT pa pb hpa);have hpb0:=(World.cell?_of_block ((O HBA).block g5 (World.block_lt_of_cell? wr _ p0))).trans p0;have hpb1:=(World.cell?_of_block ((O HBA).block g5 (World.block_lt_of_cell? wr _ p1))).trans p1;have s1:(wr.alloc (.cells #[.slice (some ⟨g5,0,none⟩) x.pl.length qc,.bool x.ref,.int .i64 x.at_] 87 (0,0))).cell? ⟨wr.heap.size,1,none⟩=some (.bool true):=by rw [← hxr]; exact(cR (O HRA) 1)
    have s0:(wr.alloc (.cells #[.slice (some ⟨g5,0,none⟩) x.pl.length qc,.bool x.ref,.int .i64 x.at_] 87 (0,0))).cell? ⟨wr.heap.size,0,none⟩=some (.slice (some ⟨g5,0,none⟩) x.pl.length qc):=(cR (O HRA) 0);have HX1:=Y ho1;rw [hxr] at s0 s1 HRD HOWA HKA HSA e0' e2' d1 hpb0 hpb1;clear hxr e0 e2 p0 p1 HRA HBA HONE HALL HMA HPA HPk f2 f3 ho1 hpk;go_upto_region 6 with fail
    clear d0 d1 d2;generalize hbaE:wr.heap.size=ba at s0 s1 HSA hzr ⊢;clear hbaE;generalize World.alloc wr _=V1 at s0 s1 HRD HOWA HKA HSA e0' e2' hpb0 hpb1 ⊢;go_wp2_with fail
    refine(O HRD).mono ?_;rintro e w2 ⟨rfl,h2,x2⟩;have hWV:W.heap.size≤V1.heap.size:=by have:=O HSA; omega
    have HK2:=Y ((O HKA).tr (x2.low hWV));have HOW2:=Y (Gp (O HOWA) x2 (fun g hg=>((O HOWA).lt g hg).2) (show eb<W.heap.size by have:=O HZW; omega) (show rb<W.heap.size by have:=O HZW; omega) (show sb<W.heap.size by have:=O HZW; omega));have hgA2:gp<A:=hgA;have HPZ:=Y (fun V (k':Ke W.heap.size eb rb sb W V)=>show V.cell? ⟨gp,sop+k,none⟩=some (.int .i64 (c:Int))∧V.cell? ⟨w.heap.size,0,none⟩=some (.slice (some ⟨gp,sop,none⟩) ps.length lc) from by
     have hkW:=O HKA;have q1:=k'.oth gp (by have:=O HZW; omega) (by omega) (by omega) (by omega);have q2:=k'.oth w.heap.size (by have:=O HZW; omega) (by omega) (by omega) (by omega);have r1:=hkW.oth gp (by have:=O HZW; omega) (by omega) (by omega) (by omega);have r2:=hkW.oth w.heap.size (by have:=O HZW; omega) (by omega) (by omega) (by omega);exact⟨(Yp (q1.trans r1.symm)).trans e0',(Yp (q2.trans r2.symm)).trans e2'⟩)
    clear s0 s1 hpb0 hpb1 HRD e0' e2';unfold Ly;obtain⟨ro,hro⟩:∃ ro,(m.read G.T (pa,pb)).2=ro:=⟨_,rfl⟩;rw [hro];have HST:=Y (show(ro.isSome=true∧ER w2 A B N G eb rb sb a m∧Zo G.T m (Ng l.args ps) []=Zo G.T m (rdJ x c 0++rdK l.args ps (k+1)) acc)∨(ro.isSome=false∧∃ mf,ER w2 A B N G eb rb sb a mf∧Zo G.T m (Ng l.args ps) []=(mf,none)) from by
     cases hr2:ro with
     | some y =>
      rw [hr2] at hro;rw [Dw hro] at h2;exact .inl ⟨rfl,h2,O HCO⟩
     | none =>
      rw [hr2] at hro;refine .inr ⟨rfl,_,h2,?_⟩;have hw0:m.wordOf G.T x 0=((m.read G.T (pa,pb)).1,none):=by rw [O HWO 0,if_neg (by rw [hro]; decide)]
      rw [O HCO,Rp _ _ _ (by omega),List.cons_append,Rq G.T m (x,0) _ _ (by show(m.wordOf G.T x 0).2=none; rw [hw0]),hw0])
    have HWOY:=Y (fun(hs:ro.isSome=true) (j:Nat) (hj:j<100)=>show m.wordOf G.T x j=m.load (Xr (ro.getD 0) (8*(j:Int))) 8 by
     rw [O HWO j,hro,if_pos hs,Dw (v:=ro.getD 0) (by rw [hro]; cases ro with | none=>cases hs | some y=>rfl)];unfold Xr;rw [show IntKind.u64.wrap (8*(j:Int))=8*(j:Int) from Lb (by omega) (by omega)])
    clear h2 x2 hro HWO;generalize ro.isSome=ok0 at HST HWOY ⊢;generalize ro.getD 0=fr at HWOY ⊢;go_wp2_with fail
    go_loopw [13,8,12] (fun s13 s8 s12 V=>∃(j:Nat) (v:Value) (ac:List Int) (ok:Bool),s13=.int .i64 j∧s8=v∧s12=.bool ok∧j≤c∧V.ownsRow W.heap.size 62 1 v ac.length (uC ac)∧Ke W.heap.size eb rb sb W V∧ac.length≤8*k+j∧((ok=true∧ok0=true∧ER V A B N G eb rb sb a m∧Zo G.T m (Ng l.args ps) []=Zo G.T m (rdJ x c j++rdK l.args ps (k+1)) ac)∨(ok=false∧∃ mf,ER V A B N G eb rb sb a mf∧Zo G.T m (Ng l.args ps) []=(mf,none)))) (fun s13 _ _ _=>c-(intOf s13).toNat)
    case atStart =>
     refine⟨0,_,acc,ok0,rfl,rfl,rfl,by omega,O HOW2,O HK2,by omega,?_⟩;rcases O HST with⟨e1,e2,e3⟩ | ⟨e1,e2⟩
     ·
      exact .inl ⟨e1,e1,e2,e3⟩
     ·
      exact .inr ⟨e1,e2⟩
    case round =>
     obtain⟨j,v2,a2,ok,rfl,rfl,rfl,hj,how,hkx,hac2,hdis⟩:=hrel;obtain⟨vp2,vc2,rfl⟩:=Ze how;obtain⟨y1,y2⟩:=O HPZ wr hkx;rcases hdis with⟨rfl,hok0,hmr,hco⟩ | ⟨rfl,mf,hmf,hmq⟩
     ·
      by_cases hj2:j<c
      ·
       have hjI:(j:Int)<(c:Int):=by omega
       have HCO2:=Y (show Zo G.T m (Ng l.args ps) []=Zo G.T m ((x,j) :: (rdJ x c (j+1)++rdK l.args ps (k+1))) a2 by rw [hco,Rp _ _ _ hj2]; rfl);have HWJ:=Y (O HWOY hok0 j (by omega));have HLD:=Y (Sc hmr hz fr (8*(j:Int)) 8);have h8:wrap64 (8*(j:Int))=8*(j:Int):=Znv (by omega) (by omega);have h8i:IntKind.i64.wrap (8*(j:Int))=8*(j:Int):=Nl (by omega) (by omega);have HOW3:=Y how;have HKX:=Y hkx;have hzr3:=hkx.size;have hok0':=Y hok0;generalize Xr fr (8*(j:Int))=ad at HWJ HLD;clear how hkx hmr hco hok0;go_wp2_with fail
       refine(O HLD).mono ?_;rintro e w3 ⟨rfl,h3,x3⟩;have hz3:=x3.size;have HK3:=Y ((O HKX).tr (x3.low hzr3));have HOW4:=Y (Gp (O HOW3) x3 (fun g hg=>((O HOW3).lt g hg).2) (show eb<W.heap.size by have:=O HZW; omega) (show rb<W.heap.size by have:=O HZW; omega) (show sb<W.heap.size by have:=O HZW; omega));have hWw3:W.heap.size≤w3.heap.size:=by omega
       have hal:=O HAL;have hnum:a2.length+1≤100:=by omega
       clear hal HLD y1 y2 h8 h8i;unfold Ly;cases hld:(m.load ad 8).2 with
       | none =>
        have HQ:=Y (show Zo G.T m (Ng l.args ps) []=((m.load ad 8).1,none) by rw [O HCO2,Rq G.T m (x,j) _ _ (by show(m.wordOf G.T x j).2=none; rw [O HWJ]; exact hld)]; show((m.wordOf G.T x j).1,none)=_; rw [O HWJ]);have HM4:=Y h3;clear h3 x3 hld;simp only [Option.isSome_none,Option.getD_none];go_wp2_with (at_builtin; refine wpList_append_own _ rfl _ _ 33 rfl W.heap.size 62 ti _ 1 8 Tryz.underlying33 hti hty0 hty1 hty2 rfl (by decide) _ _ _ rfl (World.ownsRow.alloc (O HOW4) _) ⟨w3.heap.size,0,none⟩ 1 1 [.int .u64 0] rfl rfl (by intro j u hj; match j,hj with | 0,hj=>(simp at hj; subst hj; simp [Addr.add])) (by intro u hu; simp at hu; subst hu; rfl) ?c3 ?c4 ?c5 ?_)
        case c3=>unfold maxLen; omega
        case c4=>omega
        case c5=>first | omega | (simp; omega)
        intro v7 w7 hown7 hgr7 _;have hb7:Below W.heap.size w3 w7:=Rm (by omega) (fun g hg=>((O HOW4).lt g hg).1) hgr7;have HX7:=Y (show w7.ownsRow W.heap.size 62 1 v7 (a2++[0]).length (uC (a2++[0])) by rw [Rx,List.length_append]; exact hown7);have HM7:=Y ((O HM4).kn (Below.mono hb7 (show N≤W.heap.size by have:=O HZW; omega)));have HK7:=Y ((O HK3).tr (Dm (a:=eb) (b:=rb) (c:=sb) hb7));clear hown7 hgr7 hb7 HM4 HK3 HOW4;go_wp2;go_roundw
        case rel=>exact⟨j+1,v7,a2++[0],false,by go_num,rfl,rfl,by omega,O HX7,O HK7,by simp; omega,.inr ⟨rfl,_,O HM7,O HQ⟩⟩
        case measure=>simp [intOf]; omega
       | some y =>
        rw [Gq hld] at h3;have HNX:=Y (show Zo G.T m (Ng l.args ps) []=Zo G.T m (rdJ x c (j+1)++rdK l.args ps (k+1)) (a2++[y]) by rw [O HCO2,Iq G.T m (x,j) _ _ y (by show(m.wordOf G.T x j).2=some y; rw [O HWJ]; exact hld)]);have HM4:=Y h3;clear h3 x3 hld;simp only [Option.isSome_some,Option.getD_some];go_wp2_with (at_builtin; refine wpList_append_own _ rfl _ _ 33 rfl W.heap.size 62 ti _ 1 8 Tryz.underlying33 hti hty0 hty1 hty2 rfl (by decide) _ _ _ rfl (World.ownsRow.alloc (O HOW4) _) ⟨w3.heap.size,0,none⟩ 1 1 [.int .u64 y] rfl rfl (by intro j u hj; match j,hj with | 0,hj=>(simp at hj; subst hj; simp [Addr.add])) (by intro u hu; simp at hu; subst hu; rfl) ?c3 ?c4 ?c5 ?_)
        case c3=>unfold maxLen; omega
        case c4=>omega
        case c5=>first | omega | (simp; omega)
        intro v7 w7 hown7 hgr7 _;have hb7:Below W.heap.size w3 w7:=Rm (by omega) (fun g hg=>((O HOW4).lt g hg).1) hgr7;have HX7:=Y (show w7.ownsRow W.heap.size 62 1 v7 (a2++[y]).length (uC (a2++[y])) by rw [Rx,List.length_append]; exact hown7);have HM7:=Y ((O HM4).kn (Below.mono hb7 (show N≤W.heap.size by have:=O HZW; omega)));have HK7:=Y ((O HK3).tr (Dm (a:=eb) (b:=rb) (c:=sb) hb7));clear hown7 hgr7 hb7 HM4 HK3 HOW4;go_wp2;go_roundw
        case rel=>exact⟨j+1,v7,a2++[y],true,by go_num,rfl,rfl,by omega,O HX7,O HK7,by simp; omega,.inl ⟨rfl,O hok0',O HM7,O HNX⟩⟩
        case measure=>simp [intOf]; omega
      ·
       have hjn:j=c:=by omega
       have hjI:¬ ((j:Int)<(c:Int)):=by omega
       have HN:=Y (show Zo G.T m (Ng l.args ps) []=Zo G.T m (rdK l.args ps (k+1)) a2 by rw [hco,hjn,Zcv]; rfl);have HOW3:=Y how;have HM3:=Y hmr;have HK3:=Y hkx;have hacE:a2.length≤8*(k+1):=by omega
       clear how hmr hkx hco hjn hok0;go_wp2;go_roundw
       case rel=>exact⟨k+1,_,a2,by go_num,rfl,by omega,O HOW3,O HM3,O HK3,O HN,hacE⟩
       case measure=>simp [intOf]; omega
     ·
      have HM3:=Y hmf;have HQ:=Y hmq;have HKF:=Y ((O HK).tr (hkx.low (by have:=O HZW; omega)));clear how hmf hmq hkx;by_cases hj2:j<c
      ·
       have hjI:(j:Int)<(c:Int):=by omega
       go_wp2;go_ret2;unfold GvP;rw [O HQ];exact⟨_,rfl,(fun ws hw=>by cases hw),O HM3,O HKF⟩
      ·
       have hjI:¬ ((j:Int)<(c:Int)):=by omega
       go_wp2;go_ret2;unfold GvP;rw [O HQ];exact⟨_,rfl,(fun ws hw=>by cases hw),O HM3,O HKF⟩
   | false =>
    have HX:=Y hxr;have s1:(wr.alloc (.cells #[.slice qp x.pl.length qc,.bool x.ref,.int .i64 x.at_] 87 (0,0))).cell? ⟨wr.heap.size,1,none⟩=some (.bool false):=by rw [← hxr]; exact(cR (O HRA) 1)
    have s0:(wr.alloc (.cells #[.slice qp x.pl.length qc,.bool x.ref,.int .i64 x.at_] 87 (0,0))).cell? ⟨wr.heap.size,0,none⟩=some (.slice qp x.pl.length qc):=(cR (O HRA) 0);have HPC:=Y (show x.pl.length=c by rw [O HALL hxr,← O HCW]);rw [hxr] at s0 s1 HRA HMA HOWA HPA HKA HSA e0' e2' d1;have hpl8:x.pl.length≤8:=by rw [O HPC]; exact hcw8
    clear hxr e0 e2 e0' e2' HRA HBA HONE HALL;go_upto_region 15 with fail
    clear d0 d1 d2;generalize hbaE:wr.heap.size=ba at s0 s1 HSA hzr ⊢;clear hbaE;generalize World.alloc wr _=V1 at s0 s1 HMA HOWA HPA HKA HSA ⊢;go_wp2_with fail
    clear s0 s1;go_loopw [67,8] (fun s67 s8 V=>∃(j:Nat) (v:Value) (ac:List Int),s67=.int .i64 j∧s8=v∧j≤x.pl.length∧V.ownsRow W.heap.size 62 1 v ac.length (uC ac)∧ER V A B N G eb rb sb a m∧Ke W.heap.size eb rb sb W V∧Gt V L (.slice qp x.pl.length qc) x.pl∧Zo G.T m (Ng l.args ps) []=Zo G.T m (rdJ x c j++rdK l.args ps (k+1)) ac∧ac.length≤8*k+j) (fun s67 _ _=>x.pl.length-(intOf s67).toNat)
    case atStart=>exact⟨0,_,acc,rfl,rfl,by omega,O HOWA,O HMA,O HKA,O HPA,O HCO,by omega⟩
    case round =>
     obtain⟨j,v2,a2,rfl,rfl,hj,how,hmr,hkx,hpr,hco,hac2⟩:=hrel;obtain⟨vp2,vc2,rfl⟩:=Ze how;by_cases hj2:j<x.pl.length
     ·
      obtain⟨g5,cg5,e5,-,p0,p1⟩:=Gv hpr hj2;injection e5 with f1 f2 f3;subst f1;have hpk:=O HPL _ (Je hj2);have HCO2:=Y (show Zo G.T m (Ng l.args ps) []=Zo G.T m ((x,j) :: (rdJ x c (j+1)++rdK l.args ps (k+1))) a2 by rw [hco,Rp _ _ _ (by rw [← O HPC]; exact hj2)]; rfl);have HWO:=Y (show m.wordOf G.T x j=m.read G.T (x.pl.getD j (0,0)) by unfold Zf.wordOf; rw [if_pos (O HX)]);generalize x.pl.getD j (0,0)=p at p0 p1 hpk HWO;obtain⟨pa,pb⟩:=p;simp only at p0 p1;have hpa:pa=-1∨0≤pa∧pa<G.T.r:=by rcases hpk with h | h <;> simp only at h <;> omega
      obtain⟨hra,hba,hsa⟩:=Zs wr (.cells #[.int .i64 pa,.int .i64 pb] 91 (0,0));have HRD:=Y (Zjz (hmr.al (.cells #[.int .i64 pa,.int .i64 pb] 91 (0,0))) hz hT pa pb hpa);have g0:=((cR hra 0):_=some (Value.int .i64 pa));have g1:=((cR hra 1):_=some (Value.int .i64 pb));have hzr2:=hkx.size;have HKA2:=Y (hkx.tr ((Dm (a:=eb) (b:=rb) (c:=sb) hba).low hzr2));have HOWB:=Y (Yn how fun g hg=>hba.block g (how.lt g hg).2);have HPB:=Y (Gp hpr (Dm (a:=eb) (b:=rb) (c:=sb) hba) (fun g hg=>(hpr.lt g hg).2) heL hrL hsL);have HSA2:=Y (show wr.heap.size<(wr.alloc (.cells #[.int .i64 pa,.int .i64 pb] 91 (0,0))).heap.size by omega);clear how hmr hkx hpr hco hra hba hsa hpk f2 f3;go_upto_region 18 with fail
      clear p0 p1;generalize hbaE:wr.heap.size=bb at g0 g1 HSA2 hzr2 ⊢;clear hbaE;generalize World.alloc wr _=V2 at HRD g0 g1 HKA2 HOWB HPB HSA2 ⊢;go_wp2_with fail
      refine(O HRD).mono ?_;rintro e w2 ⟨rfl,h2,x2⟩;have hV2:W.heap.size≤V2.heap.size:=by have:=O HSA2; omega
      have HK2:=Y ((O HKA2).tr (x2.low hV2));clear g0 g1 HRD;unfold Ly;cases hrd:(m.read G.T (pa,pb)).2 with
      | none =>
       have HQ:=Y (show Zo G.T m (Ng l.args ps) []=((m.read G.T (pa,pb)).1,none) by rw [O HCO2,Rq G.T m (x,j) _ _ (by rw [O HWO]; exact hrd),O HWO]);have H2:=Y h2;have HKF:=Y ((O HK).tr ((O HK2).low (by have:=O HZW; omega)));clear h2 x2 hrd;simp only [Option.isSome_none,Option.getD_none];go_wp2;go_ret2;unfold GvP;rw [O HQ];exact⟨_,rfl,(fun ws hw=>by cases hw),O H2,O HKF⟩
      | some y =>
       rw [Dw hrd] at h2;have HNX:=Y (show Zo G.T m (Ng l.args ps) []=Zo G.T m (rdJ x c (j+1)++rdK l.args ps (k+1)) (a2++[y]) by rw [O HCO2,Iq G.T m (x,j) _ _ y (by rw [O HWO]; exact hrd)]);have HM2:=Y h2;have HOW2:=Y (Gp (O HOWB) x2 (fun g hg=>((O HOWB).lt g hg).2) (show eb<W.heap.size by have:=O HZW; omega) (show rb<W.heap.size by have:=O HZW; omega) (show sb<W.heap.size by have:=O HZW; omega));have HPR2:=Y (Gp (O HPB) x2 (fun g hg=>((O HPB).lt g hg).2) heL hrL hsL);have hz2:=x2.size;have hWw2:W.heap.size≤w2.heap.size:=by omega
       have hal:=O HAL;have hnum:a2.length+1≤100:=by omega
       clear h2 x2 hrd hal;simp only [Option.isSome_some,Option.getD_some];go_wp2_with (at_builtin; refine wpList_append_own _ rfl _ _ 33 rfl W.heap.size 62 ti _ 1 8 Tryz.underlying33 hti hty0 hty1 hty2 rfl (by decide) _ _ _ rfl (World.ownsRow.alloc (O HOW2) _) ⟨w2.heap.size,0,none⟩ 1 1 [.int .u64 y] rfl rfl (by intro j u hj; match j,hj with | 0,hj=>(simp at hj; subst hj; simp [Addr.add])) (by intro u hu; simp at hu; subst hu; rfl) ?c3 ?c4 ?c5 ?_)
       case c3=>unfold maxLen; omega
       case c4=>omega
       case c5=>first | omega | (simp; omega)
       intro v7 w7 hown7 hgr7 _;have hb7:Below W.heap.size w2 w7:=Rm (by omega) (fun g hg=>((O HOW2).lt g hg).1) hgr7;obtain⟨-,hba7,hza7⟩:=Zs w2 (.cells #[.int .u64 y] 62 (0,0));have HX7:=Y (show w7.ownsRow W.heap.size 62 1 v7 (a2++[y]).length (uC (a2++[y])) by rw [Rx,List.length_append]; exact hown7);have HM7:=Y ((O HM2).kn (Below.mono hb7 (show N≤W.heap.size by have:=O HZW; omega)));have HK7:=Y ((O HK2).tr (Dm (a:=eb) (b:=rb) (c:=sb) hb7));have HPR7:=Y (show Gt w7 L (.slice (some ⟨g5,0,none⟩) x.pl.length qc) x.pl from Yn (Yn (O HPR2) (fun g hg=>hba7.block g ((O HPR2).lt g hg).2)) (fun g hg=>hgr7.block g (by have:=((O HPR2).lt g hg).2; omega) (fun e=>by
        obtain⟨cs7,hr7⟩:=Jg (O HOW2) e.symm;obtain⟨cs8,hr8⟩:=Jg (O HPR2) hg;exact Jf hr7 hr8 (by decide) rfl)))
       clear hown7 hgr7 hb7 hba7 hza7 HM2 HK2 HPR2 HOW2;go_wp2;go_roundw
       case rel=>exact⟨j+1,v7,a2++[y],by go_num,rfl,by omega,O HX7,O HM7,O HK7,O HPR7,O HNX,by simp; omega⟩
       case measure=>simp [intOf]; omega
     ·
      have hjn:j=x.pl.length:=by omega
      have HN:=Y (show Zo G.T m (Ng l.args ps) []=Zo G.T m (rdK l.args ps (k+1)) a2 by rw [hco,hjn,O HPC,Zcv]; rfl);have HOW2:=Y how;have HM2:=Y hmr;have HK2:=Y hkx;have hacE:a2.length≤8*(k+1):=by omega
      clear how hmr hkx hpr hco hjn;go_wp2;go_roundw
      case rel=>exact⟨k+1,_,a2,by go_num,rfl,by omega,O HOW2,O HM2,O HK2,O HN,hacE⟩
      case measure=>simp [intOf]; omega
  ·
   have hkn:k=l.args.length:=by omega
   subst hkn;have HOW:=Y how;have HMR:=Y hmr;have HKX:=Y hKw;have HQ:=Y (show Zo G.T m (Ng l.args ps) []=(m,some acc) by rw [hco,Zjq]; rfl);have hal:=O HAL;have hacl:acc.length≤64:=by omega
   have hzz:w.heap.size≤W.heap.size:=by have:=O HZW; omega
   clear how hmr hkx hco hKw hal;go_wp2;go_ret2;unfold GvP;rw [O HQ];exact⟨_,rfl,(fun ws hws=>by injection hws with hws; subst hws; exact⟨Yh (O HOW) hzz,hacl⟩),O HMR,O HKX⟩
end
end Go.Proofs.YtnlcfnjeagmemaaGreatDoor
