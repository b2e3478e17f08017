import Derived.Test.YtnlcfnjeagmemaaGreatDoorJ3
import Derived.Test.YtnlcfnjeagmemaaGreatDoorJ14
namespace Go.Proofs.YtnlcfnjeagmemaaGreatDoor
open Go.RowKit
set_option maxHeartbeats 4000000
set_option maxRecDepth 100000
def Ce (C:Zk)(f b:Nat):List Int:=(List.range b).map fun b:Nat=>Ja C (f:Int) (b:Int) 0
def Nc (C:Zk)(f:Nat):List (List Int):=(List.range f).map fun f=>Zmy C f
theorem Zah (C:Zk)(f b:Nat):(Ce C f b).length=b:=by simp [Ce]
theorem Zmq (C:Zk)(f b:Nat):Ce C f (b+1)=Ce C f b++[Ja C (f:Int) (b:Int) 0]:=by simp [Ce,List.range_succ]
theorem Zai (C:Zk)(f:Nat):(Nc C f).length=f:=by simp [Nc]
theorem Zmr (C:Zk)(f:Nat):Nc C (f+1)=Nc C f++[Ce C f (C.funcs.getD f []).length]:=by simp [Nc,Ce,Zmy,List.range_succ]
theorem Jz (V:World):Below V.heap.size V (V.drewN 1):=⟨rfl,rfl,rfl,Nat.le_refl _,fun _ _=>rfl⟩
theorem Yu {V:World}{g j:Nat}{v:Value}(X:Obj)(h:V.cell? ⟨g,j,none⟩=some v):((V.drewN 1).alloc X).cell? ⟨g,j,none⟩=some v:=(World.cell?_of_block ((Zs (V.drewN 1) X).2.1.block g (World.block_lt_of_cell? _ _ h))).trans h
def LyI (w V:World)(eb:Nat)(E:Ji)(C:Zk)(f b k:Nat)(bw:List (List Int))(lv:Value)(lw:List Int):Prop:=∃ li bk bg rr ck es vs,Cd w V eb E (Dd C f b k) (Cu C f b k) (Cu C f b k) li bk bg rr ck es vs bw lv lw
theorem Zwd (C:Zk)(w:World)(A eb:Nat)(E:Ji)(hE:EI w eb E)(hli:E.li=.slice none 0 0)(hbg:E.bg=.slice none 0 0)(hbk:E.bk=.slice none 0 0)(hc:Gi w A E.cf C.funcs)(hA:A≤eb)(hlen:(Xl 0 C.funcs).length≤1099511627776)(hbl:(Zg C).length≤1099511627776)(hfl0:C.funcs.length≤1099511627776) :
 Calls Tryz.prog 26 #[.pointer (some ⟨eb,0,none⟩)] w fun e w'=>(∃ v,e=.returned v)∧∃ li bk bg rr ck es vs,Cd w w' eb E (Xl 0 C.funcs) (Lg C) (Lg C) li bk bg rr ck es vs (Nc C C.funcs.length) (.slice none 0 0) []:=by
 obtain⟨ti,hti,hti0,hti1,hti2⟩:=Yr Tryz.infoII;obtain⟨tl,htl,htl0,htl1,htl2⟩:=Yr Tryz.infoLn;obtain⟨tg,htg,htg0,htg1,htg2⟩:=Yr Tryz.infoLI;obtain⟨VF,⟨fp,fc,hcf,hfc,hfl,hfa⟩,hVF⟩:=hc;have heb:=Zc hE;have HFA:=Y hfa;have HVF:=Y hVF;have HMM:∀ V,(Instr.makeMap 83 none).run Tryz.prog V=.ok (.map (some V.heap.size)) (V.alloc (.map #[] 0)):=fun V=>rfl;have c18:w.cell? ⟨eb,18,none⟩=some E.nt:=(cR hE 18);have z18:=frozen_of_row _ _ 18 _ _ hE;have HI:=Y (show LyI w ((w.setCell ⟨eb,18,none⟩ (.map (some w.heap.size))).alloc (.map #[] 0)) eb E C 0 0 0 (Nc C 0) (.slice none 0 0) [] from by
  have ho:=Zl eb 18 w (.map (some w.heap.size));have hE1:=heap_setCell_same _ _ 18 _ _ (.map (some w.heap.size)) hE;have hsz:=ho.size;obtain⟨r0,hb0,hz0⟩:=Zs (w.setCell ⟨eb,18,none⟩ (.map (some w.heap.size))) (.map #[] 0);rw [hsz] at r0 hb0;have e:({ E with li:=.slice none 0 0,bg:=.slice none 0 0,bk:=.slice none 0 0,nt:=.map (some w.heap.size) }:Ji)={ E with nt:=.map (some w.heap.size) }:=by
   cases E
   simp only at hli hbg hbk;subst hli hbg hbk;rfl
  refine⟨.slice none 0 0,.slice none 0 0,.slice none 0 0,w.heap.size,0,#[],[],?_⟩;rw [Zqj,Zqn];refine⟨heb,⟨hb0.os.trans ho.os,hb0.tape.trans ho.tape,hb0.output.trans ho.output,by omega,fun q h1 h2 _ _=>(hb0.block q h1).trans (ho.oth q h2)⟩,?_,r0,⟨rfl,fun i h=>absurd h (by simp)⟩,Nat.le_refl _,World.ownsRow_nil _ _ _ _,World.ownsRow_nil _ _ _ _,World.ownsRow_nil _ _ _ _,World.ownsRow_nil _ _ _ _,rfl,fun j hj=>absurd hj (by simp [Nc]),Zdd _,fun j hj=>absurd hj (by simp [Nc]),fun j hj=>absurd hj (by simp [Nc])⟩;rw [e];exact(hb0.block eb heb).trans hE1)
 have HCF:=Y hcf;clear hfa hVF hE hli hbg hbk hcf;go_enter Tryz.func26,Tryz.ntmps26
 go_upto_region 1 with fail
 clear c18 z18;generalize World.alloc (w.setCell _ _) _=W at HI ⊢;obtain⟨li0,bk0,bg0,rr0,ck0,es0,vs0,hP0⟩:=O HI;have c13:W.cell? ⟨eb,13,none⟩=some (.slice fp C.funcs.length fc):=by rw [← O HCF]; exact(cR hP0.ei 13)
 clear hP0;go_wp2_with fail
 clear c13;go_loopw [19] (fun s19 V=>∃ f:Nat,s19=.int .i64 f∧f≤C.funcs.length∧LyI w V eb E C f 0 0 (Nc C f) (.slice none 0 0) []) (fun s19 _=>C.funcs.length-(intOf s19).toNat)
 case atStart=>exact⟨0,rfl,by omega,O HI⟩
 case round =>
  obtain⟨f,rfl,hf,hco⟩:=hrel;by_cases hf2:f<C.funcs.length
  ·
   obtain⟨g,so,hfp,hgA,hcf⟩:=O HFA f hf2;subst hfp;obtain⟨UF,⟨up,uc,huv,huc,hul,hua⟩,hUF⟩:=O HVF f hf2;rw [huv] at hcf;have HUA:=Y hua;have HUF:=Y hUF;have HCO:=Y hco;obtain⟨li1,bk1,bg1,rr1,ck1,es1,vs1,hP1⟩:=hco;have d0:=(World.cell?_of_block (hP1.low.oth g (by omega) (by omega) (by omega) (by omega))).trans hcf;have HLF:=Y (Zik C f hf2);have HBF:=Y (Zws C f);have HBU:=Y (Zmr C f);have HLK:=Y (fun b=>Zle C f b);have HGB:=Y (fun b hb=>Zuk C f b hb);have HLE:=Y (fun b k hb hk=>Zwq C f b k hf2 hb hk);have HBE:=Y (fun b k hb hk=>Zwt C f b k hf2 hb hk);have HNW:=Y (fun b k hb hk=>Zte C f b k hf2 hb hk);have HNL:=Y (fun b k hb hk=>Zta C f b k hb hk);clear hP1 hcf huv hua hUF;generalize (C.funcs.getD f []).length=nb at d0 huc hul HUA HUF HLF HBF HBU HLK HGB HLE HBE HNW HNL;go_wp2_with fail
   clear d0;go_loopw [26,4] (fun s26 s4 V=>∃(b:Nat) (lv:Value),s26=.int .i64 b∧s4=lv∧b≤nb∧LyI w V eb E C f b 0 (Nc C f) lv (Ce C f b)) (fun s26 _ _=>nb-(intOf s26).toNat)
   case atStart=>exact⟨0,_,rfl,rfl,by omega,O HCO⟩
   case round =>
    obtain⟨b,lv,rfl,rfl,hb,hco⟩:=hrel;by_cases hb2:b<nb
    ·
     obtain⟨g2,so2,hup,hg2,hcu⟩:=O HUA b hb2;subst hup;obtain⟨mp,mc,hmv,hmc,hml,hma⟩:=O HUF b hb2;rw [hmv] at hcu;have HMA:=Y hma;obtain⟨li1,bk1,bg1,rr1,ck1,es1,vs1,hP1⟩:=hco;have hol:=hP1.ol;rw [Zah] at hol;obtain⟨lp,lc,rfl⟩:=Ze hol;obtain⟨ip,ic,rfl⟩:=Ze hP1.oli;have d0:=(World.cell?_of_block (hP1.low.oth g2 (by omega) (by omega) (by omega) (by omega))).trans hcu;have c15:wr.cell? ⟨eb,15,none⟩=some (.slice ip (Dd C f b 0).length ic):=(cR hP1.ei 15);have hnl:=O HNL b 0 hb2 (Nat.zero_le _);have hle:=O HLE b 0 hb2 (Nat.zero_le _);have hgb:=O HGB b (by omega);have HLB:=Y (O HLK b hb2);have HBB:=Y (Ztc C f b);have HLE2:=Y (fun k hk=>O HLE b k hb2 hk);have HBE2:=Y (fun k hk=>O HBE b k hb2 hk);have HNW2:=Y (fun k hk=>O HNW b k hb2 hk);have HNL2:=Y (fun k hk=>O HNL b k hb2 hk);have HLS:=Y (fun k hk=>Zqk C f b k hk);have HBY:=Y (fun k=>Ztb C f b k);have HBN:=Y (fun k=>Zwr C f b k);have HOL:=Y hol;have HP1:=Y hP1;have HNB0:=Y hnl;have hwz:=hP1.low.size;clear hP1 hcu hmv hma hol hnl;generalize hnlE:(Dd C f b 0).length=nl at c15 HNB0 hle hgb;have HNLE:=Y hnlE;clear hnlE;generalize ((C.funcs.getD f []).getD b []).length=nm at d0 hmc hml HMA HLB HBB HLE2 HBE2 HNW2 HNL2 HLS;go_wp2_with (at_builtin; refine Zdc rfl _ _ 23 rfl w.heap.size 3 ti _ 1 8 Tryz.underlying23 hti hti0 hti1 hti2 rfl (by decide) _ _ _ rfl (World.ownsRow.alloc (O HOL) _) ⟨wr.heap.size,0,none⟩ 1 1 [.int .i64 (nl:Int)] rfl rfl (by intro j u hj; match j,hj with | 0,hj=>(simp at hj; subst hj; simp [Addr.add])) (by intro u hu; simp at hu; subst hu; rfl) ?c3 ?c4 ?c5 ?_)
     case c3=>unfold maxLen; omega
     case c4=>omega
     case c5=>first | omega | (simp; omega)
     intro v7 w7 hown7 hgr7 hnew7;obtain⟨rq,hbq,hzq⟩:=Zs wr (.cells #[.int .i64 (nl:Int)] 3 (0,0));have hP2:=((O HP1).bel hbq).beg (x:=(nl:Int)) (by exact hgr7) (by rw [Zah]; exact hown7) (by rw [hzq]; exact hnew7);have hco:LyI w w7 eb E C f b 0 (Nc C f) v7 (Ce C f (b+1)):=by
      rw [Zmq,show Ja C (f:Int) (b:Int) 0=(nl:Int) from(O HNB0)];exact⟨_,_,_,_,_,_,_,hP2⟩
     have HCO2:=Y hco;have d1:=(World.cell?_of_block (hP2.low.oth g2 (by omega) (by omega) (by omega) (by omega))).trans ((World.cell?_of_block ((O HP1).low.oth g2 (by omega) (by omega) (by omega) (by omega))).symm.trans d0);clear hP2 hco rq hbq hzq hown7 hgr7 hnew7 d0 c15 HP1 HOL;go_wp2_with fail
     clear d1;go_loopw [40] (fun s40 V=>∃ k:Nat,s40=.int .i64 k∧k≤nm∧LyI w V eb E C f b k (Nc C f) v7 (Ce C f (b+1))) (fun s40 _=>nm-(intOf s40).toNat)
     case atStart=>exact⟨0,rfl,by omega,O HCO2⟩
     case round =>
      obtain⟨k,rfl,hk,hco⟩:=hrel;by_cases hk2:k<nm
      ·
       obtain⟨g3,so3,hmp,hg3,hmv⟩:=O HMA k hk2;subst hmp;obtain⟨li1,bk1,bg1,rr1,ck1,es1,vs1,hP1⟩:=hco;have hlw:=hP1.low;have hwz:=hlw.size;have HLN0:=Y (O HLS k hk2);have HBY0:=Y (O HBY k);have HBN0:=Y (O HBN k);have HNEW0:=Y (O HNW2 k hk2);have HN1:=Y (O HNL2 (k+1) hk2);have hle:=O HLE2 k (Nat.le_of_lt hk2);have hbe:=O HBE2 (k+1) hk2;obtain⟨i,hi⟩:∃ i,i=((C.funcs.getD f []).getD b []).getD k Yz:=⟨_,rfl⟩;rw [← hi] at hmv HLN0 HBY0 HBN0;have x0:=(World.cell?_of_block (hlw.oth g3 (by omega) (by omega) (by omega) (by omega))).trans (hmv 0 _ rfl);have x1:=(World.cell?_of_block (hlw.oth g3 (by omega) (by omega) (by omega) (by omega))).trans (hmv 1 _ rfl);have x2:=(World.cell?_of_block (hlw.oth g3 (by omega) (by omega) (by omega) (by omega))).trans (hmv 2 _ rfl);have x3:=(World.cell?_of_block (hlw.oth g3 (by omega) (by omega) (by omega) (by omega))).trans (hmv 3 _ rfl);have x4:=(World.cell?_of_block (hlw.oth g3 (by omega) (by omega) (by omega) (by omega))).trans (hmv 4 _ rfl);have x5:=(World.cell?_of_block (hlw.oth g3 (by omega) (by omega) (by omega) (by omega))).trans (hmv 5 _ rfl);have x6:=(World.cell?_of_block (hlw.oth g3 (by omega) (by omega) (by omega) (by omega))).trans (hmv 6 _ rfl);rw [Nat.add_zero] at x0;have hlnE:=congrArg List.length (O HLN0);generalize hL1:Dd C f b (k+1)=ls2 at HLN0 HN1 hlnE;have HL1:=Y hL1;generalize Dd C f b k=ls at HLN0 hP1 hle hlnE;generalize hB1:Cu C f b (k+1)=bs2 at HBY0 HBN0 hbe
       have HB1:=Y hB1;generalize Cu C f b k=bs at HBY0 HBN0 HNEW0 hP1;simp only [List.length_append,List.length_cons,List.length_nil] at hlnE;obtain⟨ra,hba,hza⟩:=Zs wr (.cells #[.int .i64 i.op,.int .i64 i.r,.int .i64 i.a,.int .i64 i.b,.int .i64 i.n,.int .i64 i.w,.int .i64 i.f] 103 (0,0));have hPa:=hP1.bel hba;obtain⟨ip,ic,rfl⟩:=Ze hPa.oli;have y0:=((cR ra 0):_=some (Value.int .i64 i.op));have y1:=((cR ra 1):_=some (Value.int .i64 i.r));have y2:=((cR ra 2):_=some (Value.int .i64 i.a));have y3:=((cR ra 3):_=some (Value.int .i64 i.b));have y4:=((cR ra 4):_=some (Value.int .i64 i.n));have y5:=((cR ra 5):_=some (Value.int .i64 i.w));have y6:=((cR ra 6):_=some (Value.int .i64 i.f));have HPA:=Y hPa;have HRA:=Y ra;have HZA:=Y hza;have hxw:w.heap.size≤wr.heap.size:=hwz;have HLX:=Y (show(ls2.length:Int)=(ls.length:Int)+1 by rw [hlnE]; omega);clear hmv hi hP1 hlw ra hba hza hPa hL1 hB1 hlnE;generalize hnl:ls.length=nl at hle HLX;have HNL0:=Y hnl;clear hnl;go_upto_region 12 with fail
       clear x0 x1 x2 x3 x4 x5 x6;have hzV:=O HZA;generalize World.alloc wr _=V1 at HPA HRA y0 y1 y2 y3 y4 y5 y6 hzV ⊢;generalize hxb:wr.heap.size=xb at HRA y0 y1 y2 y3 y4 y5 y6 hzV hxw ⊢;have c15:V1.cell? ⟨eb,15,none⟩=some (.slice ip nl ic):=by rw [← O HNL0]; exact(cR (O HPA).ei 15)
       have HOI:=Y (show V1.ownsRow w.heap.size 114 8 (.slice ip nl ic) nl (lnC ls) by rw [← O HNL0]; exact(O HPA).oli);have HZV:=Y hzV;have hsV:=(O HPA).low.size;clear hzV HZA hxb;have HC0:=Y (show(fun V9=>V9.cell? ⟨eb,15,none⟩=some (Value.slice ip nl ic)∧V9.cell? ⟨xb,0,none⟩=some (Value.int .i64 i.op)∧V9.cell? ⟨xb,1,none⟩=some (Value.int .i64 i.r)∧V9.cell? ⟨xb,2,none⟩=some (Value.int .i64 i.a)∧V9.cell? ⟨xb,3,none⟩=some (Value.int .i64 i.b)∧V9.cell? ⟨xb,4,none⟩=some (Value.int .i64 i.n)∧V9.cell? ⟨xb,5,none⟩=some (Value.int .i64 i.w)∧V9.cell? ⟨xb,6,none⟩=some (Value.int .i64 i.f)) (V1.drewN 1) from⟨c15,y0,y1,y2,y3,y4,y5,y6⟩);refine Zh (C:=fun V9=>V9.cell? ⟨eb,15,none⟩=some (Value.slice ip nl ic)∧V9.cell? ⟨xb,0,none⟩=some (Value.int .i64 i.op)∧V9.cell? ⟨xb,1,none⟩=some (Value.int .i64 i.r)∧V9.cell? ⟨xb,2,none⟩=some (Value.int .i64 i.a)∧V9.cell? ⟨xb,3,none⟩=some (Value.int .i64 i.b)∧V9.cell? ⟨xb,4,none⟩=some (Value.int .i64 i.n)∧V9.cell? ⟨xb,5,none⟩=some (Value.int .i64 i.w)∧V9.cell? ⟨xb,6,none⟩=some (Value.int .i64 i.f)) (d:=12) (by kernel_rfl) ?_;change Ye _ _ _ _ _ _ _ _ _ (V1.drewN 1)
       refine vD 0 (O HC0) ?_;refine vD 1 (O HC0) ?_;refine vD 2 (O HC0) ?_;refine vD 3 (O HC0) ?_;refine vD 4 (O HC0) ?_;refine vD 5 (O HC0) ?_;refine vD 6 (O HC0) ?_;refine vD 7 (O HC0) ?_;refine vO 8 fun K hK=>?_;go_simp;refine kO hK (fun _=>⟨Yu _ c15,Yu _ y0,Yu _ y1,Yu _ y2,Yu _ y3,Yu _ y4,Yu _ y5,Yu _ y6⟩) ?_;clear hK K;refine vO 9 fun K hK=>?_;refine Cq rfl (.tmp 48) (.tmp 52) 81 rfl w.heap.size 114 tl _ 8 64 Tryz.underlying81 htl htl0 htl1 htl2 rfl (by decide) _ _ _ rfl (World.ownsRow.alloc (O HOI) _) ⟨V1.heap.size,0,none⟩ 1 1 [.int .i64 i.op,.int .i64 i.r,.int .i64 i.a,.int .i64 i.b,.int .i64 i.n,.int .i64 i.w,.int .i64 i.f,.int .i64 (f:Int)] rfl rfl ?c1 ?c2 ?c3 ?c4 ?c5 ?_;case c1 =>
        intro j u hj;match j,hj with
        | 0,hj=>(simp at hj; subst hj; exact(cR (Zs _ _).1 0))
        | 1,hj=>(simp at hj; subst hj; exact(cR (Zs _ _).1 1))
        | 2,hj=>(simp at hj; subst hj; exact(cR (Zs _ _).1 2))
        | 3,hj=>(simp at hj; subst hj; exact(cR (Zs _ _).1 3))
        | 4,hj=>(simp at hj; subst hj; exact(cR (Zs _ _).1 4))
        | 5,hj=>(simp at hj; subst hj; exact(cR (Zs _ _).1 5))
        | 6,hj=>(simp at hj; subst hj; exact(cR (Zs _ _).1 6))
        | 7,hj=>(simp at hj; subst hj; exact(cR (Zs _ _).1 7))
       case c2 =>
        intro u hu;simp at hu;rcases hu with rfl | rfl | rfl | rfl | rfl | rfl | rfl | rfl <;> rfl
       case c3=>unfold maxLen; omega
       case c4=>omega
       case c5=>first | omega | (simp; omega)
       intro v7' w7' hown7 hgr7 hnew7;obtain⟨vp7,vc7,rfl⟩:=Ze hown7;have hP3:=((O HPA).bel (Jz V1)).bel (Zs (V1.drewN 1) (.cells #[.int .i64 i.op,.int .i64 i.r,.int .i64 i.a,.int .i64 i.b,.int .i64 i.n,.int .i64 i.w,.int .i64 i.f,.int .i64 (f:Int)] 114 (0,0))).2.1;rw [O HNL0] at hP3;obtain⟨q1,q2⟩:=hP3.line (x:=(i,f)) (by exact hgr7) (by rw [O HNL0]; exact hown7);have q3:=q1.trans hP3.ei;have z15:=frozen_of_row _ _ 15 _ _ q3;have d15:w7'.cell? ⟨eb,15,none⟩=some (.slice ip nl ic):=(cR q3 15);have HP4:=Y q2;have hxk:∀ j,w7'.cell? ⟨xb,j,none⟩=V1.cell? ⟨xb,j,none⟩:=fun j=>by
        have h2:xb<V1.heap.size:=Zc (O HRA);refine World.cell?_of_block ((hgr7.block xb (by simp; omega) (fun e=>?_)).trans ((Zs (V1.drewN 1) (.cells #[.int .i64 i.op,.int .i64 i.r,.int .i64 i.a,.int .i64 i.b,.int .i64 i.n,.int .i64 i.w,.int .i64 i.f,.int .i64 (f:Int)] 114 (0,0))).2.1.block xb h2));obtain⟨c2,r2⟩:=Jg (O HOI) e.symm;exact Jf r2 (O HRA) (by decide) rfl
       have HC1:=Y (show(fun V9=>V9.cell? ⟨eb,15,none⟩=some (Value.slice ip nl ic)∧V9.cell? ⟨xb,0,none⟩=some (Value.int .i64 i.op)∧V9.cell? ⟨xb,1,none⟩=some (Value.int .i64 i.r)∧V9.cell? ⟨xb,2,none⟩=some (Value.int .i64 i.a)∧V9.cell? ⟨xb,3,none⟩=some (Value.int .i64 i.b)∧V9.cell? ⟨xb,4,none⟩=some (Value.int .i64 i.n)∧V9.cell? ⟨xb,5,none⟩=some (Value.int .i64 i.w)∧V9.cell? ⟨xb,6,none⟩=some (Value.int .i64 i.f)) w7' from⟨d15,(hxk 0).trans y0,(hxk 1).trans y1,(hxk 2).trans y2,(hxk 3).trans y3,(hxk 4).trans y4,(hxk 5).trans y5,(hxk 6).trans y6⟩);have hxr:(w7'.setCell ⟨eb,15,none⟩ (.slice vp7 (nl+1) vc7)).cell? ⟨xb,0,none⟩=some (.int .i64 i.op):=by
        have h1:xb≠eb:=by have:=(O HPA).ew; omega
        exact(World.cell?_of_block (heap_setCell_other _ _ _ _ h1)).trans ((hxk 0).trans y0)
       clear hxk q1 q2 q3 hP3 hown7 hgr7 hnew7 c15 y0 y1 y2 y3 y4 y5 y6;refine kO hK (fun _=>O HC1) ?_;clear hK K;refine vO 10 fun K hK=>?_;go_simp;refine kO hK (fun _=>O HC1) ?_;clear hK K;refine vO 11 fun K hK=>?_;go_simp;refine kO hK (fun _=>O HC1) ?_;clear hK K;refine vO 12 fun K hK=>?_;go_simp;refine kO hK (fun hx=>by cases hx) ?_;clear hK K;refine Zi (by kernel_rfl) ?_ _;clear z15 d15;generalize World.setCell w7' _ _=U at HP4 hxr ⊢;by_cases ho:i.op=15
       ·
        have hob:(i.op==15)=true:=by rw [ho]; rfl
        have HBY:=Y ((O HB1).trans ((O HBY0 ho).trans (congrArg (fun z=>bs++[z]) (show Ja C (f:Int) (b:Int) ((k+1:Nat):Int)=(nl:Int)+1 by rw [O HN1,O HLX]))));have HNEW:=Y (show(nl:Int)+1 ∉ bs by have:=O HNEW0; rwa [show Ja C (f:Int) (b:Int) ((k+1:Nat):Int)=(nl:Int)+1 by rw [O HN1,O HLX]] at this);have HLN:=Y ((O HL1).trans (O HLN0));have hbe2:bs.length+1≤1099511627776:=by
         have e2:=congrArg List.length (O HBY0 ho);simp only [List.length_append,List.length_cons,List.length_nil] at e2;omega
        obtain⟨bp,bc,rfl⟩:=Ze (O HP4).obk;have HOB:=Y (O HP4).obk;have hsU:=(O HP4).low.size;clear ho hbe HBY0 HBN0 HNEW0;have c17:U.cell? ⟨eb,17,none⟩=some (.slice bp bs.length bc):=(cR (O HP4).ei 17);have c15:U.cell? ⟨eb,15,none⟩=some (.slice vp7 (nl+1) vc7):=(cR (O HP4).ei 15);go_upto_region 14 with fail
        have HC0:=Y (show(U.drewN 1).cell? ⟨eb,17,none⟩=some (.slice bp bs.length bc)∧(U.drewN 1).cell? ⟨eb,15,none⟩=some (.slice vp7 (nl+1) vc7) from⟨c17,c15⟩);refine Zh (C:=fun V9=>V9.cell? ⟨eb,17,none⟩=some (.slice bp bs.length bc)∧V9.cell? ⟨eb,15,none⟩=some (.slice vp7 (nl+1) vc7)) (d:=14) (by kernel_rfl) ?_;change Ye _ _ _ _ _ _ _ _ _ (U.drewN 1)
        refine vD 0 (O HC0) ?_;refine vD 1 (O HC0) ?_;refine vD 2 (O HC0) ?_;refine vD 3 (O HC0) ?_;refine vD 4 (O HC0) ?_;refine vD 5 (O HC0) ?_;refine vD 6 (O HC0) ?_;refine vD 7 (O HC0) ?_;refine vD 8 (O HC0) ?_;refine vD 9 (O HC0) ?_;refine vO 10 fun K hK=>?_;go_simp;refine kO hK (fun _=>⟨Yu _ c17,Yu _ c15⟩) ?_;clear hK K;refine vO 11 fun K hK=>?_;refine Cq rfl (.tmp 63) (.tmp 69) 23 rfl w.heap.size 3 ti _ 1 8 Tryz.underlying23 hti hti0 hti1 hti2 rfl (by decide) _ _ _ rfl (World.ownsRow.alloc (O HOB) _) ⟨U.heap.size,0,none⟩ 1 1 [.int .i64 ((nl:Int)+1)] rfl rfl ?c1 ?c2 ?c3 ?c4 ?c5 ?_;case c1 =>
         intro j u hj;match j,hj with
         | 0,hj=>(simp at hj; subst hj; exact(cR (Zs _ _).1 0))
        case c2 =>
         intro u hu;simp at hu;subst hu; rfl
        case c3=>unfold maxLen; omega
        case c4=>omega
        case c5=>first | omega | (simp; omega)
        intro v8 w8 hown8 hgr8 hnew8;obtain⟨vp8,vc8,rfl⟩:=Ze hown8;have hP5:=((O HP4).bel (Jz U)).bel (Zs (U.drewN 1) (.cells #[.int .i64 ((nl:Int)+1)] 3 (0,0))).2.1;obtain⟨q1,q2⟩:=hP5.back (x:=(nl:Int)+1) hgr8 hown8 hnew8;have q3:=q1.trans hP5.ei;have z17:=frozen_of_row _ _ 17 _ _ q3;have d17:w8.cell? ⟨eb,17,none⟩=some (.slice bp bs.length bc):=(cR q3 17);have HP6:=Y q2;have d15:w8.cell? ⟨eb,15,none⟩=some (.slice vp7 (nl+1) vc7):=(cR q3 15);have HC1:=Y (And.intro d17 d15);clear q1 q2 q3 hP5 hown8 hgr8 hnew8 c17 c15 d15;refine kO hK (fun _=>O HC1) ?_;clear hK K;refine vO 12 fun K hK=>?_;go_simp;refine kO hK (fun _=>O HC1) ?_;clear hK K;refine vO 13 fun K hK=>?_;go_simp;refine kO hK (fun _=>O HC1) ?_;clear hK K;refine vO 14 fun K hK=>?_;go_simp;refine kO hK (fun hx=>by cases hx) ?_;clear hK K;refine Zi (by kernel_rfl) ?_ _;clear z17 d17;generalize World.setCell w8 _ _=U2 at HP6 ⊢;have c18:U2.cell? ⟨eb,18,none⟩=some (.map (some rr1)):=(cR (O HP6).ei 18);have c15:U2.cell? ⟨eb,15,none⟩=some (.slice vp7 (nl+1) vc7):=(cR (O HP6).ei 15);have c17:U2.cell? ⟨eb,17,none⟩=some (.slice vp8 (bs.length+1) vc8):=(cR (O HP6).ei 17);have hP7:=(O HP6).bel (Jz U2);have hu:=Zsq ((nl:Int)+1) (U2.drewN 1) rr1 ck1 es1 bs hP7.mp hP7.pe (O HNEW) (.int .i64 ((bs.length:Int)+1));have HP8:=Y (hP7.num ((nl:Int)+1));clear hP7;go_upto_region 15 with fail
        refine Zh (C:=fun V=>∃ k,V=U2.drewN k) (d:=14) (by kernel_rfl) ?_;change Ye _ _ _ _ _ _ _ _ _ (U2.drewN 1)
        refine vE 0 ?_;refine vE 1 ?_;refine vE 2 ?_;refine vE 3 ?_;refine vE 4 ?_;refine vE 5 ?_;refine vE 6 ?_;refine vE 7 ?_;refine vE 8 ?_;refine vE 9 ?_;refine vE 10 ?_;refine vE 11 ?_;refine vE 12 ?_;refine vE 13 ?_;refine vO 14 fun K hK=>?_;go_simp;refine kO hK (fun hx=>by cases hx) ?_;clear hK K;refine Zi (by kernel_rfl) ?_ _;clear hu c18 c15 c17;rw [show((bs.length+1:Nat):Int)=(bs.length:Int)+1 by omega] at HP8;go_wp2;go_roundw
        case rel=>exact⟨k+1,by go_num,by omega,by unfold LyI; rw [O HLN,O HBY]; exact⟨_,_,_,_,_,_,_,O HP8⟩⟩
        case measure=>simp [intOf]; omega
       ·
        have hob:(i.op==15)=false:=by rw [beq_eq_false_iff_ne]; exact ho
        have HN:=Y (show LyI w U eb E C f b (k+1) (Nc C f) v7 (Ce C f (b+1)) by
         have e1:=(O HL1).trans (O HLN0);have e2:=(O HB1).trans (O HBN0 ho);unfold LyI;rw [e1,e2];exact⟨_,_,_,_,_,_,_,O HP4⟩)
        clear ho HBY0 HBN0 HNEW0 HP4;go_wp2;go_roundw
        case rel=>exact⟨k+1,by go_num,by omega,O HN⟩
        case measure=>simp [intOf]; omega
      ·
       have hkl:k=nm:=by omega
       subst hkl;obtain⟨li1,bk1,bg1,rr1,ck1,es1,vs1,hP1⟩:=hco;obtain⟨ip,ic,rfl⟩:=Ze hP1.oli;have hle:=O HLE2 k (Nat.le_refl _);have hwz:=hP1.low.size;have HOI:=Y hP1.oli;have HPA:=Y hP1;have c15:wr.cell? ⟨eb,15,none⟩=some (.slice ip (Dd C f b k).length ic):=(cR hP1.ei 15);clear hP1;generalize hnl:(Dd C f b k).length=nl at c15 HOI hle;have HNL0:=Y hnl;clear hnl;go_wp2_with (at_builtin; refine Zdc rfl _ _ 81 rfl w.heap.size 114 tl _ 8 64 Tryz.underlying81 htl htl0 htl1 htl2 rfl (by decide) _ _ _ rfl (World.ownsRow.alloc (O HOI) _) ⟨wr.heap.size,0,none⟩ 1 1 [.int .i64 (-1),.int .i64 0,.int .i64 0,.int .i64 0,.int .i64 0,.int .i64 0,.int .i64 0,.int .i64 (f:Int)] rfl rfl ?c1 ?c2 ?c3 ?c4 ?c5 ?_)
       case c1 =>
        intro j u hj;match j,hj with
        | 0,hj=>(simp at hj; subst hj; exact(cR (Zs _ _).1 0))
        | 1,hj=>(simp at hj; subst hj; exact(cR (Zs _ _).1 1))
        | 2,hj=>(simp at hj; subst hj; exact(cR (Zs _ _).1 2))
        | 3,hj=>(simp at hj; subst hj; exact(cR (Zs _ _).1 3))
        | 4,hj=>(simp at hj; subst hj; exact(cR (Zs _ _).1 4))
        | 5,hj=>(simp at hj; subst hj; exact(cR (Zs _ _).1 5))
        | 6,hj=>(simp at hj; subst hj; exact(cR (Zs _ _).1 6))
        | 7,hj=>(simp at hj; subst hj; exact(cR (Zs _ _).1 7))
       case c2 =>
        intro u hu;simp at hu;rcases hu with rfl | rfl | rfl | rfl | rfl | rfl | rfl | rfl <;> rfl
       case c3=>unfold maxLen; omega
       case c4=>omega
       case c5=>first | omega | (simp; omega)
       intro v9 w9 hown9 hgr9 hnew9;obtain⟨vp9,vc9,rfl⟩:=Ze hown9;have hP3:=(O HPA).bel (Zs wr (.cells #[.int .i64 (-1),.int .i64 0,.int .i64 0,.int .i64 0,.int .i64 0,.int .i64 0,.int .i64 0,.int .i64 (f:Int)] 114 (0,0))).2.1;rw [O HNL0] at hP3;obtain⟨q1,q2⟩:=hP3.line (x:=(Nn,f)) (by exact hgr9) (by rw [O HNL0]; exact hown9);have q3:=q1.trans hP3.ei;have z15:=frozen_of_row _ _ 15 _ _ q3;have d15:w9.cell? ⟨eb,15,none⟩=some (.slice ip nl ic):=(cR q3 15);have HN:=Y (show LyI w (w9.setCell ⟨eb,15,none⟩ (.slice vp9 (nl+1) vc9)) eb E C f (b+1) 0 (Nc C f) v7 (Ce C f (b+1)) by
        unfold LyI;rw [← O HLB,← O HBB];exact⟨_,_,_,_,_,_,_,q2⟩)
       clear q1 q2 q3 hP3 hown9 hgr9 hnew9 c15 HPA HOI;go_wp2;go_roundw
       case rel=>exact⟨b+1,_,by go_num,rfl,by omega,O HN⟩
       case measure=>simp [intOf]; omega
    ·
     have hbl2:b=nb:=by omega
     subst hbl2;obtain⟨li1,bk1,bg1,rr1,ck1,es1,vs1,hP1⟩:=hco;have hol:=hP1.ol;rw [Zah] at hol;obtain⟨lp,lc,rfl⟩:=Ze hol;obtain⟨gp,gc,rfl⟩:=Ze hP1.obg;have hvl:vs1.length=f:=by rw [hP1.len,Zai]
     have hwz:=hP1.low.size;have HOG:=Y hP1.obg;have HPA:=Y hP1;have c16:wr.cell? ⟨eb,16,none⟩=some (.slice gp vs1.length gc):=(cR hP1.ei 16);rw [hvl] at c16 HOG;have HVL:=Y hvl;clear hP1 hol hvl;go_wp2_with (at_builtin; refine Zdc rfl _ _ 82 rfl w.heap.size 23 tg _ 1 24 Tryz.underlying82 htg htg0 htg1 htg2 rfl (by decide) _ _ _ rfl (World.ownsRow.alloc (O HOG) _) ⟨wr.heap.size,0,none⟩ 1 1 [.slice lp b lc] rfl rfl (by intro j u hj; match j,hj with | 0,hj=>(simp at hj; subst hj; exact(cR (Zs _ _).1 0))) (by intro u hu; simp at hu; subst hu; rfl) ?c3 ?c4 ?c5 ?_)
     case c3=>unfold maxLen; omega
     case c4=>omega
     case c5=>first | omega | (simp; omega)
     intro v9 w9 hown9 hgr9 hnew9;obtain⟨vp9,vc9,rfl⟩:=Ze hown9;have hP3:=(O HPA).bel (Zs wr (.cells #[.slice lp b lc] 23 (0,0))).2.1;rw [O HVL] at hP3;obtain⟨q1,q2⟩:=hP3.fin (by exact hgr9) (by rw [O HVL]; exact hown9);have q3:=q1.trans hP3.ei;have z16:=frozen_of_row _ _ 16 _ _ q3;have d16:w9.cell? ⟨eb,16,none⟩=some (.slice gp f gc):=(cR q3 16);have HN:=Y (show LyI w (w9.setCell ⟨eb,16,none⟩ (.slice vp9 (f+1) vc9)) eb E C (f+1) 0 0 (Nc C (f+1)) (.slice none 0 0) [] by
      unfold LyI;rw [← O HLF,← O HBF,O HBU];exact⟨_,_,_,_,_,_,_,q2⟩)
     clear q1 q2 q3 hP3 hown9 hgr9 hnew9 c16 HPA HOG;go_wp2;go_roundw
     case rel=>exact⟨f+1,by go_num,by omega,O HN⟩
     case measure=>simp [intOf]; omega
  ·
   have hfl2:f=C.funcs.length:=by omega
   subst hfl2;have HN:=Y (show ∃ li bk bg rr ck es vs,Cd w wr eb E (Xl 0 C.funcs) (Lg C) (Lg C) li bk bg rr ck es vs (Nc C C.funcs.length) (.slice none 0 0) [] by
    unfold LyI at hco;rw [Zsz,Ztd] at hco;exact hco)
   clear hco;go_wp2;go_returns;exact⟨⟨_,rfl⟩,O HN⟩
end Go.Proofs.YtnlcfnjeagmemaaGreatDoor
