import Derived.Test.YtnlcfnjeagmemaaGreatDoorJ3
import Derived.Test.YtnlcfnjeagmemaaGreatDoorXeN
import Derived.Test.YtnlcfnjeagmemaaGreatDoorXeI
import Derived.Test.YtnlcfnjeagmemaaGreatDoorXeP
import Derived.Test.YtnlcfnjeagmemaaGreatDoorJ29
import Derived.Test.YtnlcfnjeagmemaaGreatDoorJ15
namespace Go.Proofs.YtnlcfnjeagmemaaGreatDoor
open Go.RowKit
set_option maxHeartbeats 4000000
set_option maxRecDepth 100000
def EL (w:World)(B eb rb sb:Nat)(v:Value)(ls:List (Zt×Nat)):Prop:=∃ p c,v=.slice p ls.length c∧ls.length<4611686018427387904∧∀ k,k<ls.length→∃ g so,p=some ⟨g,so,none⟩∧g<B∧g≠eb∧g≠rb∧g≠sb∧∀ j u,(lnV (ls.getD k (Yz,0)))[j]?=some u→w.cell? ⟨g,so+k*8+j,none⟩=some u
theorem EL.ke {w w':World}{B eb rb sb:Nat}{v:Value}{ls:List (Zt×Nat)}(h:EL w B eb rb sb v ls)(k:Ke B eb rb sb w w'):EL w' B eb rb sb v ls:=by
 obtain⟨p,c,h1,h2,h3⟩:=h;refine⟨p,c,h1,h2,fun i hi=>?_⟩;obtain⟨g,so,e,g1,g2,g3,g4,hc⟩:=h3 i hi;exact⟨g,so,e,g1,g2,g3,g4,fun j u hu=>(Yp (k.oth g g1 g2 g3 g4)).trans (hc j u hu)⟩
structure EQ (w:World)(B eb rb sb:Nat)(G:Ji)(C:Zk):Prop where
 ef:EF w B eb rb sb G C
 el:EL w B eb rb sb G.li (Xl 0 C.funcs)
 mp:∃ rr ck es,G.nt=.map (some rr)∧w.heap[rr]?=some (.map es ck)∧MpI (Lg C) es.toList 1∧rr<B∧rr≠eb∧rr≠rb∧rr≠sb
theorem EQ.ke {w w':World}{B eb rb sb:Nat}{G:Ji}{C:Zk}(h:EQ w B eb rb sb G C)(k:Ke B eb rb sb w w'):EQ w' B eb rb sb G C:=by
 obtain⟨rr,ck,es,h1,h2,h3,h4,h5,h6,h7⟩:=h.mp;exact⟨h.ef.ke k,h.el.ke k,rr,ck,es,h1,(k.oth rr h4 h5 h6 h7).trans h2,h3,h4,h5,h6,h7⟩
def StP (w:World)(A B:Nat)(G:Ji)(eb rb sb:Nat)(C:Zk)(x:Zf)(e:Ending)(w':World):Prop:=∃ b N' a',e=.returned (.bool b)∧(x.kind=0→a'=Yx C x)∧ER w' A B N' G eb rb sb a' x∧Ke B eb rb sb w w'
theorem Zkf (x:Int):∀(l:List Int) (k:Int),0≤k→0≤Lh x l k∧Lh x l k≤k+l.length
 | [],k,h=>⟨Int.le_refl _,by show(0:Int)≤_; omega⟩
 | q :: r,k,h=>by
  rw [Lh];split
  ·
   simp only [List.length_cons]; omega
  ·
   have:=Zkf x r (k+1) (by omega);simp only [List.length_cons];omega
theorem Tryz.infLnS:(Tryz.prog.info? 114).map (·.size)=some 8:=by kernel_rfl
theorem Zwe (w:World)(Z cs:Array Value)(T:TypeId):((w.alloc (.cells Z T)).setRow w.heap.size cs).heap[w.heap.size]?=some (.cells cs T (0,0))∧Below w.heap.size w ((w.alloc (.cells Z T)).setRow w.heap.size cs)∧(w.alloc (.cells Z T)).heap[w.heap.size]?=some (.cells Z T (0,0)):=by
 obtain⟨r,hb,-⟩:=Zs w (.cells Z T (0,0));exact⟨setRow_heap _ _ _ _ _ _ r,Zp hb (Nat.le_refl _),r⟩
theorem Zsl {w:World}{A B N:Nat}{G:Ji}{eb rb sb:Nat}{a:Int}{m:Zf}(h:ER w A B N G eb rb sb a m)(hz:Q0 m)(hT:TK G.T)(C:Zk)(hQ:EQ w B eb rb sb G C)(w00:World)(hA0:w00.heap.size=A)(hb00:Below w00.heap.size w00 w)(hTb:TbO w00 G.T)(hag:G.T.ag.length≤100)(hrs:G.T.rs.length≤100)(hE:Na w00 A G.ce C.externs)(hG:∀ s ∈ C.externs,Mt s)(q:Nat)(hq:q≤4194304)(hiv:Nm C q 1 m)(ha:a=Yx C m)(hfl:C.funcs.length≤1099511627776)(hbl:(Zg C).length≤1099511627776)(own:Yc)(was:Nat→Int) :
 Calls Tryz.prog 31 #[.pointer (some ⟨eb,0,none⟩)] w (StP w A B G eb rb sb C (Xg G.T C own was m)):=by
 have hbd:=h.bd;obtain⟨P,hei,-,-,-⟩:=h.regs;have c22:w.cell? ⟨eb,22,none⟩=some (.int .i64 a):=(cR hei 22);by_cases hin:0≤m.bk∧m.bk<((C.funcs.getD m.f.toNat []).length:Int)
 ·
  have hf0:=hiv.f;have ha0:=hiv.a;obtain⟨fn,hfn⟩:∃ k:Nat,m.f=k:=⟨m.f.toNat,by omega⟩;obtain⟨b,hb⟩:∃ k:Nat,m.bk=k:=⟨m.bk.toNat,by omega⟩;obtain⟨k,hk⟩:∃ k:Nat,m.at_=k:=⟨m.at_.toNat,by omega⟩;rw [hfn,hb] at hin;simp only [Int.toNat_natCast] at hin;have hfl1:fn<C.funcs.length:=by rw [hfn] at hf0; omega
  have hbl1:b<(C.funcs.getD fn []).length:=by omega
  have hblk:Di C m=(C.funcs.getD fn []).getD b []:=by
   unfold Di;rw [hfn,hb];simp only [Int.toNat_natCast,Int.natCast_nonneg,if_true]
  have hkl:k≤((C.funcs.getD fn []).getD b []).length:=by rw [hblk,hk] at ha0; omega
  obtain⟨hg1,hg2⟩:=Zst C fn b k hfl1 hbl1 hkl;have hap:a=((Ja C fn b k).toNat:Int):=by
   rw [ha];unfold Yx;rw [hfn,hb,hk,Oi C fn b k hbl1,Int.toNat_natCast]
  have ha1:a+1=Yx C (nxM m):=by
   rw [hap];unfold Yx nxM;simp only;rw [hfn,hb,hk,show((k:Int)+1)=((k+1:Nat):Int) by omega,Oi C fn b k hbl1,Oi C fn b (k+1) hbl1];simp only [Int.toNat_natCast];omega
  obtain⟨lp,lc,hlv,hll,hla⟩:=hQ.el;obtain⟨g,so,hlp,hgB,hg3,hg4,hg5,hgc⟩:=hla _ hg2;have hfe:Zv C m=((C.funcs.getD fn []).getD b []).getD k Yz:=by
   unfold Zv;rw [hfn,hb,hk];simp only [Int.toNat_natCast,Int.natCast_nonneg,if_true]
  have c15:w.cell? ⟨eb,15,none⟩=some (.slice (some ⟨g,so,none⟩) (Xl 0 C.funcs).length lc):=by rw [← hlp,← hlv]; exact(cR hei 15)
  rw [List.getD_eq_getElem?_getD,hg1] at hgc;simp only [Option.getD_some] at hgc;have hnm:∀ i:Zt,(if k<((C.funcs.getD fn []).getD b []).length then ((C.funcs.getD fn []).getD b []).getD k Yz else Nn)=i→i.op≠-1→Zv C m=i∧k<((C.funcs.getD fn []).getD b []).length:=fun i hi ho=>by
   by_cases hlt:k<((C.funcs.getD fn []).getD b []).length
   ·
    rw [if_pos hlt] at hi;exact⟨hfe.trans hi,hlt⟩
   ·
    rw [if_neg hlt] at hi;rw [← hi] at ho;exact absurd rfl ho
  have hno:∀ i:Zt,(if k<((C.funcs.getD fn []).getD b []).length then ((C.funcs.getD fn []).getD b []).getD k Yz else Nn)=i→i.op=-1→Xg G.T C own was m=m.fault 1:=fun i hi ho=>by
   by_cases hlt:k<((C.funcs.getD fn []).getD b []).length
   ·
    rw [if_pos hlt] at hi;exact Gn (hfe.trans hi) (.inl (by rw [ho]; decide))
   ·
    refine Gn (i:=Yz) (hfe.trans ?_) (.inl (by decide));rw [List.getD_eq_getElem?_getD,List.getElem?_eq_none (by omega)];rfl
  obtain⟨i,hi⟩:∃ i:Zt,(if k<((C.funcs.getD fn []).getD b []).length then ((C.funcs.getD fn []).getD b []).getD k Yz else Nn)=i:=⟨_,rfl⟩;rw [hi] at hgc;have hnm:=hnm i hi;have hno:=hno i hi;have y0:=hgc 0 _ rfl;have y1:=hgc 1 _ rfl;have y2:=hgc 2 _ rfl;have y3:=hgc 3 _ rfl;have y4:=hgc 4 _ rfl;have y5:=hgc 5 _ rfl;have y6:=hgc 6 _ rfl;have y7:=hgc 7 _ rfl;rw [Nat.add_zero] at y0;have hnu:Lh (a+1) (Lg C) 1=Jh ((nxM m).f,(nxM m).bk,(nxM m).at_) (Zg C) 1∨¬ k<((C.funcs.getD fn []).getD b []).length:=by
   by_cases hlt:k<((C.funcs.getD fn []).getD b []).length
   ·
    left
    rw [ha1];unfold Yx nxM;simp only;rw [hfn,hb,hk,show((k:Int)+1)=((k+1:Nat):Int) by omega];exact Zsu C fn b (k+1) hfl1 hbl1 hlt
   ·
    exact .inr hlt
  cases i with
  | mk op r x y n wd f =>
  simp only at y0 y1 y2 y3 y4 y5 y6 hnm hno;have hlI:(((Ja C fn b k).toNat:Nat):Int)<((Xl 0 C.funcs).length:Int):=by omega
  rw [hap] at c22;have HE:=Y h;have HQ:=Y hQ;have HIV:=Y hiv;have HNM:=Y hnm;have HNO:=Y hno;have HA1:=Y ha1;have HNU:=Y hnu;have HAP:=Y hap;have HB00:=Y hb00;have HTB:=Y hTb;have HSE:=Y hE;have HG:=Y hG;have HFN:=Y hfn;have HA0:=Y hA0;clear h hei hQ hiv hnm hno ha1 hnu hap ha hgc hi hfe hg1 hla hlv hlp hblk ha0 hf0 hin hb00 hTb hE hG hfn hb hk hA0;generalize (Xl 0 C.funcs).length=nl at c15 hlI hll hg2;generalize (Ja C fn b k).toNat=p at c22 y0 y1 y2 y3 y4 y5 y6 y7 hlI HAP hg2;have hp0:¬ ((p:Int)<0):=by omega
  by_cases ho:op=-1
  ·
   have HQ2:=Y (O HNO ho);have hob:(op==(-1:Int))=true:=by rw [ho]; rfl
   subst ho;go_enter Tryz.func31,Tryz.ntmps31
   go_upto_region 1 with fail
   go_quiet (fail)
   have HFL:=Y (fun k=>Mg ((O HE).dr k) hz 1);go_wp2_with fail
   refine(O HFL _).mono ?_;rintro e w1 ⟨rfl,h1,k1⟩;have H1:=Y h1;have K1:=Y (k1.ud.low hbd.2.2.2.2.2.2);clear h1 k1 HFL;go_wp2;go_ret;rw [O HQ2];exact⟨_,_,_,rfl,(fun e=>absurd (show(5:Int)=0 from e) (by decide)),O H1,O K1⟩
  ·
   have hob:(op==(-1:Int))=false:=by rw [beq_eq_false_iff_ne]; exact ho
   obtain⟨hf,hkl2⟩:=O HNM ho;have HF:=Y hf;have HNU2:=Y ((O HNU).resolve_right (fun h=>h hkl2));clear hf ho;go_enter Tryz.func31,Tryz.ntmps31
   go_upto_region 1 with fail
   go_quiet (fail)
   go_upto_region 3 with fail
   have c15:=show(w.drewN nq).cell? _=_ from c15
   have c22:=show(w.drewN nq).cell? _=_ from c22
   have y0:=show(w.drewN nq).cell? _=_ from y0
   have y1:=show(w.drewN nq).cell? _=_ from y1
   have y2:=show(w.drewN nq).cell? _=_ from y2
   have y3:=show(w.drewN nq).cell? _=_ from y3
   have y4:=show(w.drewN nq).cell? _=_ from y4
   have y5:=show(w.drewN nq).cell? _=_ from y5
   have y6:=show(w.drewN nq).cell? _=_ from y6
   have y7:=show(w.drewN nq).cell? _=_ from y7
   have HEW:=Y ((O HE).dr nq);have HQW:=Y ((O HQ).ke ((Ke.rf B eb rb sb w).dr nq));have HBW:=Y (show Below w00.heap.size w00 (w.drewN nq) from⟨(O HB00).os,(O HB00).tape,(O HB00).output,(O HB00).size,(O HB00).block⟩);have HKW:=Y (show Ke B eb rb sb w (w.drewN nq) from(Ke.rf _ _ _ _ _).dr nq);clear HE HQ HB00;generalize w.drewN nq=W at c15 c22 y0 y1 y2 y3 y4 y5 y6 y7 HEW HQW HBW HKW ⊢;have hbdW:=(O HEW).bd;have HC0:=Y (show(fun V9=>V9.cell? ⟨eb,15,none⟩=some (Value.slice (some ⟨g,so,none⟩) nl lc)∧V9.cell? ⟨eb,22,none⟩=some (Value.int .i64 (p:Int))∧V9.cell? ⟨g,so+p*8,none⟩=some (Value.int .i64 op)∧V9.cell? ⟨g,so+p*8+1,none⟩=some (Value.int .i64 r)∧V9.cell? ⟨g,so+p*8+2,none⟩=some (Value.int .i64 x)∧V9.cell? ⟨g,so+p*8+3,none⟩=some (Value.int .i64 y)∧V9.cell? ⟨g,so+p*8+4,none⟩=some (Value.int .i64 n)∧V9.cell? ⟨g,so+p*8+5,none⟩=some (Value.int .i64 wd)∧V9.cell? ⟨g,so+p*8+6,none⟩=some (Value.int .i64 f)∧V9.cell? ⟨g,so+p*8+7,none⟩=some (Value.int .i64 (fn:Int))) (W.drewN 1) from⟨c15,c22,y0,y1,y2,y3,y4,y5,y6,y7⟩);refine Zh (C:=fun V9=>V9.cell? ⟨eb,15,none⟩=some (Value.slice (some ⟨g,so,none⟩) nl lc)∧V9.cell? ⟨eb,22,none⟩=some (Value.int .i64 (p:Int))∧V9.cell? ⟨g,so+p*8,none⟩=some (Value.int .i64 op)∧V9.cell? ⟨g,so+p*8+1,none⟩=some (Value.int .i64 r)∧V9.cell? ⟨g,so+p*8+2,none⟩=some (Value.int .i64 x)∧V9.cell? ⟨g,so+p*8+3,none⟩=some (Value.int .i64 y)∧V9.cell? ⟨g,so+p*8+4,none⟩=some (Value.int .i64 n)∧V9.cell? ⟨g,so+p*8+5,none⟩=some (Value.int .i64 wd)∧V9.cell? ⟨g,so+p*8+6,none⟩=some (Value.int .i64 f)∧V9.cell? ⟨g,so+p*8+7,none⟩=some (Value.int .i64 (fn:Int))) (d:=11) (by kernel_rfl) ?_
   change Ye _ _ _ _ _ _ _ _ _ (W.drewN 1)
   refine vD 0 (O HC0) ?_;refine vD 1 (O HC0) ?_;refine vD 2 (O HC0) ?_;refine vD 3 (O HC0) ?_;refine vD 4 (O HC0) ?_;refine vD 5 (O HC0) ?_;refine vD 6 (O HC0) ?_;refine vD 7 (O HC0) ?_;refine vD 8 (O HC0) ?_;refine vD 9 (O HC0) ?_;refine vO 10 fun K hK=>?_;go_simp;refine kO hK (fun _=>⟨Yu _ c15,Yu _ c22,Yu _ y0,Yu _ y1,Yu _ y2,Yu _ y3,Yu _ y4,Yu _ y5,Yu _ y6,Yu _ y7⟩) ?_;clear hK K;have HBX:=Y (show(((W.drewN 1).alloc (.cells #[.int .i64 0,.int .i64 0,.int .i64 0,.int .i64 0,.int .i64 0,.int .i64 0,.int .i64 0,.int .i64 0] 114)).setRow W.heap.size #[.int .i64 op,.int .i64 r,.int .i64 x,.int .i64 y,.int .i64 n,.int .i64 wd,.int .i64 f,.int .i64 (fn:Int)]).heap[W.heap.size]?=some (.cells #[.int .i64 op,.int .i64 r,.int .i64 x,.int .i64 y,.int .i64 n,.int .i64 wd,.int .i64 f,.int .i64 (fn:Int)] 114 (0,0))∧Below W.heap.size (W.drewN 1) (((W.drewN 1).alloc (.cells #[.int .i64 0,.int .i64 0,.int .i64 0,.int .i64 0,.int .i64 0,.int .i64 0,.int .i64 0,.int .i64 0] 114)).setRow W.heap.size #[.int .i64 op,.int .i64 r,.int .i64 x,.int .i64 y,.int .i64 n,.int .i64 wd,.int .i64 f,.int .i64 (fn:Int)])∧((W.drewN 1).alloc (.cells #[.int .i64 0,.int .i64 0,.int .i64 0,.int .i64 0,.int .i64 0,.int .i64 0,.int .i64 0,.int .i64 0] 114)).heap[W.heap.size]?=some (.cells #[.int .i64 0,.int .i64 0,.int .i64 0,.int .i64 0,.int .i64 0,.int .i64 0,.int .i64 0,.int .i64 0] 114 (0,0)) from Zwe (W.drewN 1) #[.int .i64 0,.int .i64 0,.int .i64 0,.int .i64 0,.int .i64 0,.int .i64 0,.int .i64 0,.int .i64 0] #[.int .i64 op,.int .i64 r,.int .i64 x,.int .i64 y,.int .i64 n,.int .i64 wd,.int .i64 f,.int .i64 (fn:Int)] 114)
   refine vO 11 fun K hK=>?_;rw [if_pos (by rfl)];refine wp_store_row 114 _ _ rfl W.heap.size #[.int .i64 op,.int .i64 r,.int .i64 x,.int .i64 y,.int .i64 n,.int .i64 wd,.int .i64 f,.int .i64 (fn:Int)] rfl rfl 114 _ (O HBX).2.2 (Tryz.infLnS.trans rfl) rfl (by simp [Value.oneCell']) ?_;refine hK.out _ _ (fun hx=>by cases hx) ?_;clear hK K;simp only [Act.put];refine Zi (by kernel_rfl) ?_ _;obtain⟨r1,hb1,-⟩:=O HBX;have HE1:=Y (((O HEW).dr 1).bel hb1);have HK1:=Y (((Ke.rf B eb rb sb W).dr 1).tr ((Dm hb1).low hbdW.2.2.2.2.2.2));have HX1:=Y r1;clear r1 hb1 HBX c15 c22 y0 y1 y2 y3 y4 y5 y6 y7 HC0;have hxB:B≤W.heap.size:=hbdW.2.2.2.2.2.2;generalize World.setRow (World.alloc (W.drewN 1) _) _ _=V1 at HE1 HK1 HX1 ⊢;have HX1:=Y (show V1.heap[W.heap.size]?=_ from O HX1);generalize W.heap.size=xb at HX1 hxB ⊢;obtain⟨P1,hei1,-,-,-⟩:=(O HE1).regs;have c22:V1.cell? ⟨eb,22,none⟩=some (.int .i64 (p:Int)):=by rw [← O HAP]; exact(cR hei1 22)
   have z22:=frozen_of_row _ _ 22 _ _ hei1;clear hei1;go_upto_block 0 with fail
   have HS2:=Y (show Jt (V1.setCell ⟨eb,22,none⟩ (.int .i64 ((p:Int)+1))) A B N G eb rb sb ((p:Int)+1) (nxM m) xb ⟨op,r,x,y,n,wd,f⟩ fn from⟨((O HE1).at_ ((p:Int)+1)).goto m.f m.bk (m.at_+1),(heap_setCell_other _ _ _ _ (by show xb≠eb; omega)).trans (O HX1),hxB⟩);have HK2:=Y (show Ke B eb rb sb W (V1.setCell ⟨eb,22,none⟩ (.int .i64 ((p:Int)+1))) from(O HK1).tr (Sa (Zl eb 22 V1 _)));clear c22 z22 HE1 HK1 HX1;generalize World.setCell V1 _ _=V2 at HS2 HK2 ⊢;refine wp_block ?_;refine Zn (Q:=fun a w=>Code.wp Tryz.prog (Gd Tryz.f31 0) _ a w) (fun s=>?_) _ ?_
   ·
    have hap:(p:Int)+1=Yx C (nxM m):=by rw [← O HA1,O HAP]
    have hS2:=O HS2;have hQ2:=(O HQW).ke (O HK2);have hiv:=O HIV;obtain⟨rr,ck,es,hnt,hmp,hpe,-,-,-,-⟩:=hQ2.mp;have hnb:=Zkf ((p:Int)+1) (Lg C) 1 (by decide);have hbk:(Lg C).length=(Zg C).length:=by simp [Lg]
    have hnu:=O HNU2;rw [O HAP] at hnu;have hzn:Q0 (nxM m):=⟨hz.kind,hz.code,hz.vals⟩;have hbV:Below w00.heap.size w00 V2:=by
     have hb:=O HBW;have k2:=O HK2;refine⟨k2.os.trans hb.os,k2.tape.trans hb.tape,k2.output.trans hb.output,Nat.le_trans hb.size k2.size,fun q hq=>(k2.oth q ?_ ?_ ?_ ?_).trans (hb.block q hq)⟩;all_goals (have:=O HA0; omega)
    have hout:=Zic hS2.er hzn hT C w00 (O HA0) hbV (O HTB) hag hrs (O HSE) (O HG) (by have h1:=hiv.tr; have h2:=hiv.st; show m.tr.length≤4194304; omega) (fun k=>by
     show 0≤m.sc.getD k 0∧m.sc.getD k 0<18446744073709551616;by_cases hk:k<m.sc.length
     ·
      rw [List.getD_eq_getElem?_getD,List.getElem?_eq_getElem hk];exact hiv.sc _ (List.getElem_mem hk)
     ·
      rw [List.getD_eq_getElem?_getD,List.getElem?_eq_none (by omega)];exact⟨by decide,by decide⟩) f
    have hF:=O HF;refine Zwb (m0:=m) (own:=own) (was:=was) hS2 hzn hT ((O HKW).tr (O HK2)) hap rfl hF hQ2.ef (by omega) hfl1 (O HFN) rr ck es hnt hmp hpe ⟨hnb.1,by omega⟩ hnu hout ?_ ?_
    ·
     intro b' a' N' V a0 a1 a3 s' hka he hke;have HR:=Y he;have HKR:=Y hke;have HKA:=Y hka;clear hap hS2 hQ2 hiv hnt hmp hpe hnb hbk hnu hbV hout he hke hka hF;rw [Zy];go_wp2_with fail
     go_ret;exact⟨_,_,_,rfl,O HKA,O HR,O HKR⟩
    ·
     intro hb s';have HQ3:=Y (show Xg G.T C own was m=m.fault 1 from Gn hF (.inl hb));have HFL:=Y (Mg hS2.er hzn 1);have hBV:=hS2.er.bd.2.2.2.2.2.2;clear hap hS2 hQ2 hiv hnt hmp hpe hnb hbk hnu hbV hout hF hb;rw [Zy];go_wp2_with fail
     refine(O HFL).mono ?_;rintro e w1 ⟨rfl,h1,k1⟩;have H1:=Y (h1.goto m.f m.bk m.at_);have K1:=Y (((O HKW).tr (O HK2)).tr (k1.low hBV));clear h1 k1 HFL;go_wp2;go_ret;rw [O HQ3];exact⟨_,_,_,rfl,(fun e=>absurd (show(5:Int)=0 from e) (by decide)),O H1,O K1⟩
   ·
    rfl
 ·
  have HQ2:=Y (show Xg G.T C own was m=m.fault 1 from by
   refine Gn (i:=Yz) ?_ (.inl (by decide));unfold Zv;split
   ·
    rename_i h0;have e:(C.funcs.getD m.f.toNat []).getD m.bk.toNat []=[]:=by
     rw [List.getD_eq_getElem?_getD,List.getElem?_eq_none (by omega)];rfl
    rw [e];rfl
   ·
    rfl)
  have e1:a=-1:=by rw [ha]; exact Zdk C _ _ _ hin
  rw [e1] at c22;have HFL:=Y (fun k=>Mg (h.dr k) hz 1);clear h hei hQ hiv ha hb00 hTb hE hG hin e1;go_enter Tryz.func31,Tryz.ntmps31
  go_upto_region 1 with fail
  go_quiet (fail)
  go_wp2_with fail
  refine(O HFL _).mono ?_;rintro e w1 ⟨rfl,h1,k1⟩;have H1:=Y h1;have K1:=Y (k1.ud.low hbd.2.2.2.2.2.2);clear h1 k1 HFL;go_wp2;go_ret;rw [O HQ2];exact⟨_,_,_,rfl,(fun e=>absurd (show(5:Int)=0 from e) (by decide)),O H1,O K1⟩
set_option maxHeartbeats 4000000
set_option maxRecDepth 100000
def Fz (s:Nat→Value):Act:=⟨List.toArray ((List.range 386).map s),[]⟩
theorem Gj (s:Nat→Value):Fz s=⟨List.toArray (s 0 :: s 1 :: s 2 :: s 3 :: s 4 :: s 5 :: s 6 :: s 7 :: s 8 :: s 9 :: s 10 :: s 11 :: s 12 :: s 13 :: s 14 :: s 15 :: s 16 :: s 17 :: s 18 :: s 19 :: s 20 :: s 21 :: s 22 :: s 23 :: s 24 :: s 25 :: s 26 :: s 27 :: s 28 :: s 29 :: s 30 :: s 31 :: s 32 :: s 33 :: s 34 :: s 35 :: s 36 :: s 37 :: s 38 :: s 39 :: s 40 :: s 41 :: s 42 :: s 43 :: s 44 :: s 45 :: s 46 :: s 47 :: s 48 :: s 49 :: s 50 :: s 51 :: s 52 :: s 53 :: s 54 :: s 55 :: s 56 :: s 57 :: s 58 :: s 59 :: s 60 :: s 61 :: s 62 :: s 63 :: s 64 :: s 65 :: s 66 :: s 67 :: s 68 :: s 69 :: s 70 :: s 71 :: s 72 :: s 73 :: s 74 :: s 75 :: s 76 :: s 77 :: s 78 :: s 79 :: s 80 :: s 81 :: s 82 :: s 83 :: s 84 :: s 85 :: s 86 :: s 87 :: s 88 :: s 89 :: s 90 :: s 91 :: s 92 :: s 93 :: s 94 :: s 95 :: s 96 :: s 97 :: s 98 :: s 99 :: s 100 :: s 101 :: s 102 :: s 103 :: s 104 :: s 105 :: s 106 :: s 107 :: s 108 :: s 109 :: s 110 :: s 111 :: s 112 :: s 113 :: s 114 :: s 115 :: s 116 :: s 117 :: s 118 :: s 119 :: s 120 :: s 121 :: s 122 :: s 123 :: s 124 :: s 125 :: s 126 :: s 127 :: s 128 :: s 129 :: s 130 :: s 131 :: s 132 :: s 133 :: s 134 :: s 135 :: s 136 :: s 137 :: s 138 :: s 139 :: s 140 :: s 141 :: s 142 :: s 143 :: s 144 :: s 145 :: s 146 :: s 147 :: s 148 :: s 149 :: s 150 :: s 151 :: s 152 :: s 153 :: s 154 :: s 155 :: s 156 :: s 157 :: s 158 :: s 159 :: s 160 :: s 161 :: s 162 :: s 163 :: s 164 :: s 165 :: s 166 :: s 167 :: s 168 :: s 169 :: s 170 :: s 171 :: s 172 :: s 173 :: s 174 :: s 175 :: s 176 :: s 177 :: s 178 :: s 179 :: s 180 :: s 181 :: s 182 :: s 183 :: s 184 :: s 185 :: s 186 :: s 187 :: s 188 :: s 189 :: s 190 :: s 191 :: s 192 :: s 193 :: s 194 :: s 195 :: s 196 :: s 197 :: s 198 :: s 199 :: s 200 :: s 201 :: s 202 :: s 203 :: s 204 :: s 205 :: s 206 :: s 207 :: s 208 :: s 209 :: s 210 :: s 211 :: s 212 :: s 213 :: s 214 :: s 215 :: s 216 :: s 217 :: s 218 :: s 219 :: s 220 :: s 221 :: s 222 :: s 223 :: s 224 :: s 225 :: s 226 :: s 227 :: s 228 :: s 229 :: s 230 :: s 231 :: s 232 :: s 233 :: s 234 :: s 235 :: s 236 :: s 237 :: s 238 :: s 239 :: s 240 :: s 241 :: s 242 :: s 243 :: s 244 :: s 245 :: s 246 :: s 247 :: s 248 :: s 249 :: s 250 :: s 251 :: s 252 :: s 253 :: s 254 :: s 255 :: s 256 :: s 257 :: s 258 :: s 259 :: s 260 :: s 261 :: s 262 :: s 263 :: s 264 :: s 265 :: s 266 :: s 267 :: s 268 :: s 269 :: s 270 :: s 271 :: s 272 :: s 273 :: s 274 :: s 275 :: s 276 :: s 277 :: s 278 :: s 279 :: s 280 :: s 281 :: s 282 :: s 283 :: s 284 :: s 285 :: s 286 :: s 287 :: s 288 :: s 289 :: s 290 :: s 291 :: s 292 :: s 293 :: s 294 :: s 295 :: s 296 :: s 297 :: s 298 :: s 299 :: s 300 :: s 301 :: s 302 :: s 303 :: s 304 :: s 305 :: s 306 :: s 307 :: s 308 :: s 309 :: s 310 :: s 311 :: s 312 :: s 313 :: s 314 :: s 315 :: s 316 :: s 317 :: s 318 :: s 319 :: s 320 :: s 321 :: s 322 :: s 323 :: s 324 :: s 325 :: s 326 :: s 327 :: s 328 :: s 329 :: s 330 :: s 331 :: s 332 :: s 333 :: s 334 :: s 335 :: s 336 :: s 337 :: s 338 :: s 339 :: s 340 :: s 341 :: s 342 :: s 343 :: s 344 :: s 345 :: s 346 :: s 347 :: s 348 :: s 349 :: s 350 :: s 351 :: s 352 :: s 353 :: s 354 :: s 355 :: s 356 :: s 357 :: s 358 :: s 359 :: s 360 :: s 361 :: s 362 :: s 363 :: s 364 :: s 365 :: s 366 :: s 367 :: s 368 :: s 369 :: s 370 :: s 371 :: s 372 :: s 373 :: s 374 :: s 375 :: s 376 :: s 377 :: s 378 :: s 379 :: s 380 :: s 381 :: s 382 :: s 383 :: s 384 :: s 385 :: []),[]⟩:=rfl
theorem Zwf (l:List Value)(n:Nat)(h:l.length=n):l=(List.range n).map fun i=>l.getD i undef:=by
 refine List.ext_getElem (by simp [h]) fun k k1 k2=>?_;simp only [List.getElem_map,List.getElem_range];simp [List.getD,k1]
theorem Yd {Q:Act→World→Prop}{w:World}(l:List Value)(hl:l.length=386)(h:Q (Fz fun i=>l.getD i undef) w):Q ⟨List.toArray l,[]⟩ w:=by
 unfold Fz at h;rw [← Zwf l 386 hl] at h;exact h
def xT (f:Func):Nat→Code
 | 0=>f.body.getD .skip
 | n+1=>Nw (xT f n)
theorem Tryz.infRFx:(Tryz.prog.info? 46).map (·.size)=some 4:=by kernel_rfl
theorem Yap {V w:World}{T:Zm}{C:Zk}{f:Int}{ws sc:List Int}{n:Nat}{st:Int}{A B N:Nat}{G:Ji}{eb rb sb:Nat}{P:PV}{es:List Value}{a:Int}{M:Zf}{ob fb:Nat}{s:Nat→Value}(hP:EP V A B N G eb rb sb P es a M)(hn:n=M.me.length)(hob:V.heap[ob]?=some (.cells #[.int .i64 0,.slice none 0 0,.int .i64 0,.slice none 0 0,.int .i64 0,.int .i64 0] 41 (0,0)))(hfb:V.heap[fb]?=some (.cells #[.int .i64 0,.int .i64 0,.int .i64 0,.int .i64 0] 46 (0,0)))(ho1:w.heap.size≤ob)(ho2:ob<A)(hf1:w.heap.size≤fb)(hf2:fb<A)(hbw:Below w.heap.size w V)(hM:Lc T C f ws sc n st=M)(hE:Lv T C f ws n st=0)(h5:s 5=.int .i64 (n:Int))(h14:s 14=.pointer (some ⟨ob,0,none⟩))(h15:s 15=.pointer (some ⟨fb,0,none⟩))(h18:s 18=.pointer (some ⟨eb,0,none⟩)) :
 Code.wp Tryz.prog (xT Tryz.f8 17) (bodyPost Tryz.prog Tryz.f8 (Gc w T C f ws sc n st)) (Fz s) V:=by
 have hne:ob≠fb:=Jf hob hfb (by decide);have hae:=hP.ae;have hbe:=hP.be;have hbn:=hP.bn;have hnw:=hP.nw;have hl:=hP.len;have hpk:=hP.pk;have hwz:=hbw.size;have hei:=hP.ei;have HVV:=Y hP.vv;have HTR:=Y hP.tr;obtain⟨vp,vc,hvv⟩:=Ze hP.vv;obtain⟨tp,tc,htv⟩:=Ze hP.tr.row;obtain⟨lo,hlo⟩:∃ lo:Int,lo=(M.me.length:Int)-M.pk:=⟨_,rfl⟩;have c24:V.cell? ⟨eb,24,none⟩=some (.int .i64 lo):=by rw [hlo]; exact(cR hei 24)
 have c30:V.cell? ⟨eb,30,none⟩=some (.int .i64 G.pk):=(cR hei 30);have z30:=frozen_of_row _ _ 30 _ _ hei;have hw:wrap64 ((n:Int)-lo)=M.pk:=by
  simp only [wrap64];omega
 have hEI:=heap_setCell_same _ _ 30 _ _ (.int .i64 M.pk) hei;have hO:=Zl eb 30 V (.int .i64 M.pk);rw [Gj,h5,h14,h15,h18];have HU0:=Y (show ∀ q,q≠eb→(V.setCell ⟨eb,30,none⟩ (.int .i64 M.pk)).heap[q]?=V.heap[q]? from fun q hq=>hO.oth q hq);have HUB:=Y (Zer hO hbw (by omega));have hsz:=hO.size;have hd25:=((cR hEI 25):_=some (Value.int .i64 M.kind));have hd26:=((cR hEI 26):_=some P.vv);have hd27:=((cR hEI 27):_=some (Value.int .i64 M.code));have hd28:=((cR hEI 28):_=some P.tv);have hd29:=((cR hEI 29):_=some (Value.int .i64 M.steps));have hd30:=((cR hEI 30):_=some (Value.int .i64 M.pk));rw [hvv] at hd26 HVV;rw [htv] at hd28 HTR;have HOB:=Y hob;have HFB:=Y hfb;have HM:=Y hM;have HEE:=Y hE;clear hP hei hEI hO hbw hM hE hob hfb hvv htv hlo h5 h14 h15 h18 hn;conv=>arg 2; whnf
 go_upto_region 65 with fail
 clear c24 c30 z30;generalize World.setCell V _ _=U at HU0 HUB hsz hd25 hd26 hd27 hd28 hd29 hd30 ⊢;have HC0:=Y (show(fun V9=>V9.cell? ⟨eb,25,none⟩=some (Value.int .i64 M.kind)∧V9.cell? ⟨eb,26,none⟩=some (Value.slice vp M.vals.length vc)∧V9.cell? ⟨eb,27,none⟩=some (Value.int .i64 M.code)∧V9.cell? ⟨eb,28,none⟩=some (Value.slice tp M.tr.length tc)∧V9.cell? ⟨eb,29,none⟩=some (Value.int .i64 M.steps)∧V9.cell? ⟨eb,30,none⟩=some (Value.int .i64 M.pk)) (U.drewN 1) from⟨hd25,hd26,hd27,hd28,hd29,hd30⟩);refine Zh (C:=fun V9=>V9.cell? ⟨eb,25,none⟩=some (Value.int .i64 M.kind)∧V9.cell? ⟨eb,26,none⟩=some (Value.slice vp M.vals.length vc)∧V9.cell? ⟨eb,27,none⟩=some (Value.int .i64 M.code)∧V9.cell? ⟨eb,28,none⟩=some (Value.slice tp M.tr.length tc)∧V9.cell? ⟨eb,29,none⟩=some (Value.int .i64 M.steps)∧V9.cell? ⟨eb,30,none⟩=some (Value.int .i64 M.pk)) (d:=5) (by kernel_rfl) ?_;change Ye _ _ _ _ _ _ _ _ _ (U.drewN 1)
 refine vD 0 (O HC0) ?_;refine vD 1 (O HC0) ?_;refine vD 2 (O HC0) ?_;refine vD 3 (O HC0) ?_;refine vO 4 fun K hK=>?_;go_simp;refine(Znm (U.drewN 1)).mono ?_;rintro e w5 ⟨rfl,hb5⟩;have hbk:∀ q,q<U.heap.size→w5.heap[q]?=U.heap[q]?:=fun q hq=>hb5.block q hq;have h5s:U.heap.size≤w5.heap.size:=hb5.size;have hobU:ob<U.heap.size:=by omega
 have hfbU:fb<U.heap.size:=by omega
 have HS2:=Y ((hbk ob hobU).trans ((O HU0 ob (by omega)).trans (O HOB)));have HS3:=Y ((hbk fb hfbU).trans ((O HU0 fb (by omega)).trans (O HFB)));have HB5:=Y (Zb (O HUB) (show Below U.heap.size U w5 from⟨hb5.os,hb5.tape,hb5.output,hb5.size,hb5.block⟩) (O HUB).size);have HBK:=Y hbk;have hel:eb<U.heap.size:=by omega
 have HC1:=Y (show(fun V9=>V9.cell? ⟨eb,25,none⟩=some (Value.int .i64 M.kind)∧V9.cell? ⟨eb,26,none⟩=some (Value.slice vp M.vals.length vc)∧V9.cell? ⟨eb,27,none⟩=some (Value.int .i64 M.code)∧V9.cell? ⟨eb,28,none⟩=some (Value.slice tp M.tr.length tc)∧V9.cell? ⟨eb,29,none⟩=some (Value.int .i64 M.steps)∧V9.cell? ⟨eb,30,none⟩=some (Value.int .i64 M.pk)) w5 from by
  have k:∀ j,w5.cell? ⟨eb,j,none⟩=U.cell? ⟨eb,j,none⟩:=fun j=>World.cell?_of_block (hbk eb hel);exact⟨(k 25).trans hd25,(k 26).trans hd26,(k 27).trans hd27,(k 28).trans hd28,(k 29).trans hd29,(k 30).trans hd30⟩)
 clear hb5 hbk;unfold flt;refine kO hK (fun _=>O HC1) ?_;clear hK K;refine vO 5 fun K hK=>?_;rw [if_pos (by rfl)];refine wp_store_row 41 _ _ rfl ob #[.int .i64 M.kind,.slice vp M.vals.length vc,.int .i64 M.code,.slice tp M.tr.length tc,.int .i64 M.steps,.int .i64 M.pk] rfl rfl 41 _ (O HS2) (Tryz.infOutX.trans rfl) rfl (by simp [Value.oneCell']) ?_;have HS4:=Y ((setRow_other w5 ob fb #[.int .i64 M.kind,.slice vp M.vals.length vc,.int .i64 M.code,.slice tp M.tr.length tc,.int .i64 M.steps,.int .i64 M.pk] (by omega)).trans (O HS3));refine hK.out _ _ (fun hx=>by cases hx) ?_;clear hK K;simp only [Act.put];refine vO 6 fun K hK=>?_;rw [if_pos (by rfl)];refine wp_store_row 46 _ _ rfl fb #[.int .i64 0,.int .i64 (-1),.int .i64 (-1),.int .i64 (-1)] rfl rfl 46 _ (O HS4) (Tryz.infRFx.trans rfl) rfl (by simp [Value.oneCell']) ?_;refine hK.out _ _ (fun hx=>by cases hx) ?_;clear hK K;simp only [Act.put];refine Zi (by kernel_rfl) ?_ _;have HZ2:=Y ((setRow_other (w5.setRow ob #[.int .i64 M.kind,.slice vp M.vals.length vc,.int .i64 M.code,.slice tp M.tr.length tc,.int .i64 M.steps,.int .i64 M.pk]) fb ob #[.int .i64 0,.int .i64 (-1),.int .i64 (-1),.int .i64 (-1)] (by omega)).trans (setRow_heap _ _ _ #[.int .i64 M.kind,.slice vp M.vals.length vc,.int .i64 M.code,.slice tp M.tr.length tc,.int .i64 M.steps,.int .i64 M.pk] _ _ (O HS2)));have HZ3:=Y (setRow_heap _ _ _ #[.int .i64 0,.int .i64 (-1),.int .i64 (-1),.int .i64 (-1)] _ _ (O HS4));clear hd25 hd26 hd27 hd28 hd29 hd30
 go_wp2;refine bodyPost_ret (Nq (fn:=Tryz.f8) (p:=14) (q:=15) (px:=41) (uy:=46) rfl _ _ ob 41 #[.int .i64 M.kind,.slice vp M.vals.length vc,.int .i64 M.code,.slice tp M.tr.length tc,.int .i64 M.steps,.int .i64 M.pk] (0,0) _ fb 46 #[.int .i64 0,.int .i64 (-1),.int .i64 (-1),.int .i64 (-1)] (0,0) _ rfl (O HZ2) Tryz.underlying41 rfl (Tryz.infOutX.trans rfl) rfl (O HZ3) Tryz.underlying46 rfl (Tryz.infRFx.trans rfl)) rfl ?_;have kp:∀ q,B≤q→q<V.heap.size→((w5.setRow ob #[.int .i64 M.kind,.slice vp M.vals.length vc,.int .i64 M.code,.slice tp M.tr.length tc,.int .i64 M.steps,.int .i64 M.pk]).setRow fb #[.int .i64 0,.int .i64 (-1),.int .i64 (-1),.int .i64 (-1)]).heap[q]?=V.heap[q]?:=fun q h1 h2=>(setRow_other _ _ _ _ (by omega)).trans ((setRow_other _ _ _ _ (by omega)).trans ((O HBK q (by omega)).trans (O HU0 q (by omega))));unfold Gc;rw [O HM,O HEE];refine⟨_,_,es,rfl,Yh (Yn (O HVV) fun g hg=>?_) (show w.heap.size≤B by omega),Ck (Zcs (O HTR) fun q hq hq2=>kp q hq hq2) (show w.heap.size≤B by omega),Zp (Zp (O HB5) (by omega)) (by omega)⟩;have:=(O HVV).lt g hg;exact kp g this.1 this.2
end Go.Proofs.YtnlcfnjeagmemaaGreatDoor
