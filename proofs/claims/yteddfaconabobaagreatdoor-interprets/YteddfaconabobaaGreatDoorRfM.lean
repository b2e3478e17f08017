import Derived.Test.YteddfaconabobaaGreatDoorPk
import Derived.Test.YteddfaconabobaaGreatDoorJ25
import Derived.Test.YteddfaconabobaaGreatDoorJ23
import Derived.Deep.LoopGhost
import Derived.Deep.CutBlock
namespace Go.Proofs.YteddfaconabobaaGreatDoor
open Go.RowKit
theorem Znx {P:Zl}{w0 W V:World}{pb b vb sb fbx ib fb fo fc B n0:Nat}{gs:List Nat}{N:Nat→Prop}{xv:Value}{F:Nat}{fn:Zn}{box:Array Value}{r0:Zy}{o:List Int}{m:Nat}{x:Xk}{sc:List Int}{tr:List (Int×List Int)}{es:List Value}{sp tp:Option Addr}{scc tc:Nat}{fnn:Int}{Q0:Exit→Act→World→Prop}{a1 a4 a6 a7 a8 a9:Value}{s:Nat→Value}{op d a bbb n1 f_:Int}{args:List (Int×Int)}{outs:List Int}{xap xop:Option Addr}{xac xoc:Nat}(hG':Yp P)(hNV':¬ N vb)(hB':Sg P w0 W V pb b vb sb fbx gs N (.slice (some ⟨fb,fo,none⟩) P.funcs.length fc) xv F fn box r0 o m (m+1) x sc tr es sp tp scc tc fnn)(HI':Zo x=⟨op,d,a,bbb,n1,f_,args,outs⟩)(hX':V.heap[ib]?=some (.cells #[.int .i64 op,.int .i64 d,.int .i64 a,.int .i64 bbb,.int .u64 n1,.int .i64 f_,.slice xap args.length xac,.slice xop outs.length xoc] 65 (0,0)))(hXA':LS 2 w0 (.slice xap args.length xac) args.length (fun k=>Yz (args.getD k (0,0))))(hXO':Li w0 (.slice xop outs.length xoc) outs)(hNN':∀ g,W.heap.size≤g→N g)(hCL':Sf P w0 pb b fb fo fc F xv m)(hBW':B≤W.heap.size)(hmn':m<n0)(hF:F≤20000)(hop0:1≤op)(hop1:op≤18)(hs:s 35=.int .i64 op)
 (hEX':ExN P w0 W pb b vb sb fbx ib gs N (.slice (some ⟨fb,fo,none⟩) P.funcs.length fc) xv F fn box r0 o m Q0 a1 a4 a6 a7 a8 a9) (hRT':ExR P w0 W pb b vb B gs N (.slice (some ⟨fb,fo,none⟩) P.funcs.length fc) xv F n0 fn r0 o Q0) :
 Code.wp Tryz.prog (Ml Tryz.f37 0) Q0 (Fr (.pointer (some ⟨pb,0,none⟩)) a1 (.slice (some ⟨vb,0,none⟩) fn.homes.length fn.homes.length) (.slice (some ⟨sb,0,none⟩) fn.slots.length fn.slots.length) a4 (.pointer (some ⟨fbx,0,none⟩)) a6 a7 a8 a9 (.int .i64 x.b) (.int .i64 (x.i+1)) (.pointer (some ⟨ib,0,none⟩)) s) V:=by
 by_cases h1:op=1
 ·
  subst h1;exact Zqe hs (fun s'=>Zjn hG' hNV' hB' HI' hX' hEX')
 refine Zqd hs (by simp [h1]) (fun s hs=>?_);by_cases h2:op=2
 ·
  subst h2;exact Zqg hs (fun s'=>Zlt hG' hNV' hB' HI' hX' hEX')
 refine Zqf hs (by simp [h2]) (fun s hs=>?_);by_cases h10:op=10
 ·
  subst h10;exact Zqi hs (fun s'=>Zlv hG' hNV' hB' HI' hX' hEX')
 refine Zqh hs (by simp [h10]) (fun s hs=>?_);by_cases h11:op=11
 ·
  subst h11;exact Zqk hs (fun s'=>Zjo hG' hNV' hB' HI' hX' hEX')
 refine Zqj hs (by simp [h11]) (fun s hs=>?_);by_cases h12:op=12
 ·
  subst h12;exact Zqm hs (fun s'=>Zly hG' hNV' hB' HI' hX' rfl hEX' hRT' hXA' hXO' hNN' hCL')
 refine Zql hs (by simp [h12]) (fun s hs=>?_);by_cases h13:op=13
 ·
  subst h13;exact Zqo hs (fun s'=>Znw hG' hNV' hB' HI' hX' hEX' hXA' hXO' hNN' hF)
 refine Zqn hs (by simp [h13]) (fun s hs=>?_);by_cases h14:op=14
 ·
  subst h14;exact Zqq hs (fun s'=>Zlr hG' hNV' hB' HI' hX' hEX')
 refine Zqp hs (by simp [h14]) (fun s hs=>?_);by_cases h15:op=15
 ·
  subst h15;exact Zqs hs (fun s'=>Zls hG' hNV' hB' HI' hX' hEX')
 refine Zqr hs (by simp [h15]) (fun s hs=>?_);by_cases h16:op=16
 ·
  subst h16;exact Zqu hs (fun s'=>Znv hG' hB' HI' hX' hRT' hXO' hBW')
 refine Zqt hs (by simp [h16]) (fun s hs=>?_);by_cases h17:op=17
 ·
  subst h17;exact Zqw hs (fun s'=>Zlx hG' hB' HI' hX' hRT' hXA' hBW' hmn')
 refine Zqv hs (by simp [h17]) (fun s hs=>?_);by_cases h18:op=18
 ·
  subst h18;exact Zpo hs (fun s'=>Zlw hG' hB' HI' hX' hRT')
 refine Zpn hs (by simp [h18]) (fun s hs=>?_);exact Zlu hG' hNV' hB' HI' hX' hEX' (by omega) (by omega)
set_option maxHeartbeats 16000000 in
set_option maxRecDepth 100000 in
theorem Zny (P:Zl)(w0 w:World)(pb b fb fo fc F n vb sb:Nat)(xv:Value)(gs:List Nat)(N:Nat→Prop)(fn:Zn)(pv hv sv bv:Value)(BB:Nat→Value)(x0:Xk)(sc0:List Int)(tr0:List (Int×List Int))(es0:List Value)(sp0 tp0:Option Addr)(scc0 tc0:Nat)(fnn0:Int)(hG:Yp P)(hcall:∀ m,m<n→Sf P w0 pb b fb fo fc F xv m)(hS:Nt w0 w pb b N (.slice (some ⟨fb,fo,none⟩) P.funcs.length fc) xv F ((F-n:Nat):Int) (.slice sp0 sc0.length scc0) sc0 0 0 (.slice tp0 tr0.length tc0) tr0 es0 fnn0)(hR:Nf w x0 b vb sb gs)(hW:Lp P x0)(hx0:x0.b=0∧x0.i=0∧x0.fn=fn)(hD:Ng w0 fn pv hv sv bv BB)(hNv:¬ N vb)(hN:∀ g,w.heap.size≤g→N g)(hnF:n≤F)(hF:F≤20000)(htr:tr0.length≤F-n) :
 Calls Tryz.prog 37 #[.pointer (some ⟨pb,0,none⟩),.agg #[pv,.int .i64 fn.results,hv,sv,bv],.slice (some ⟨vb,0,none⟩) fn.homes.length fn.homes.length,.slice (some ⟨sb,0,none⟩) fn.slots.length fn.slots.length] w fun e w'=>∃ lv again,e=.returned (.tuple #[lv,.bool again])∧Ox P w0 w' pb b w.heap.size N (.slice (some ⟨fb,fo,none⟩) P.funcs.length fc) xv F n fn x0.o lv again (ev P n [x0] sc0 tr0)∧Xj b pb (fun g=>g=vb∨g ∈ gs) w w':=by
 obtain⟨pp1,pc1,rfl⟩:=hD.ps.shape;obtain⟨pp2,pc2,rfl⟩:=hD.hs.shape;obtain⟨pp3,pc3,rfl⟩:=hD.ss.shape;obtain⟨pp4,pc4,rfl⟩:=hD.bs.shape;obtain⟨q0,hb0,hz0⟩:=Yj w (.cells #[.slice pp1 fn.params.length pc1,.int .i64 fn.results,.slice pp2 fn.homes.length pc2,.slice pp3 fn.slots.length pc3,.slice pp4 fn.blocks.length pc4] 60 (0,0));obtain⟨r0,hr0⟩:∃ r,r=ev P n [x0] sc0 tr0:=⟨_,rfl⟩;rw [← hr0];have HG:=J hG;have HCALL:=J hcall;have HD:=J hD;have HNV:=J hNv;have HN:=J hN;have HB0:=J hb0;have H0:=J (show Sg P w0 (w.alloc (.cells #[.slice pp1 fn.params.length pc1,.int .i64 fn.results,.slice pp2 fn.homes.length pc2,.slice pp3 fn.slots.length pc3,.slice pp4 fn.blocks.length pc4] 60 (0,0))) (w.alloc (.cells #[.slice pp1 fn.params.length pc1,.int .i64 fn.results,.slice pp2 fn.homes.length pc2,.slice pp3 fn.slots.length pc3,.slice pp4 fn.blocks.length pc4] 60 (0,0))) pb b vb sb w.heap.size gs N (.slice (some ⟨fb,fo,none⟩) P.funcs.length fc) xv F fn #[.slice pp1 fn.params.length pc1,.int .i64 fn.results,.slice pp2 fn.homes.length pc2,.slice pp3 fn.slots.length pc3,.slice pp4 fn.blocks.length pc4] r0 x0.o n n x0 sc0 tr0 es0 sp0 tp0 scc0 tc0 fnn0 from⟨⟨hx0.2.2,hW,rfl⟩,hR.below hb0,q0,Xj.refl _ _ _ _,hS.grow hb0,hr0,htr,hnF⟩);have HX0:=J hx0;clear hG hcall hS hR hW hx0 hD hNv hN q0 hb0 hr0 htr;go_enter Tryz.func37,Tryz.ntmps37
 go_wp2_with fail
 generalize World.alloc w _=W at H0 HB0 hz0 ⊢;go_loopg [10,11] n (fun k s10 s11 w'=>∃(x:Xk) (sc:List Int) (tr:List (Int×List Int)) (es:List Value) (sp tp:Option Addr) (scc tc:Nat) (fnn:Int),s10=.int .i64 x.b∧s11=.int .i64 x.i∧k≤n∧Sg P w0 W w' pb b vb sb w.heap.size gs N (.slice (some ⟨fb,fo,none⟩) P.funcs.length fc) xv F fn #[.slice pp1 fn.params.length pc1,.int .i64 fn.results,.slice pp2 fn.homes.length pc2,.slice pp3 fn.slots.length pc3,.slice pp4 fn.blocks.length pc4] r0 x0.o k k x sc tr es sp tp scc tc fnn)
 case atStart=>exact⟨x0,sc0,tr0,es0,sp0,tp0,scc0,tc0,fnn0,by rw [(G HX0).1],by rw [(G HX0).2.1],Nat.le_refl _,G H0⟩
 case round =>
  obtain⟨x,sc,tr,es,sp,tp,scc,tc,fnn,rfl,rfl,hkn,hbs⟩:=hrel;clear H0 HX0;have HBR:=J hbs;have hkF:=hbs.2.2.2.2.2.2.2;have hrow:=hbs.2.2.2.2.1.row;cases gk with
  | zero =>
   have HT:=J (Zlj pb (.slice (some ⟨fb,fo,none⟩) P.funcs.length fc) xv (.slice sp sc.length scc) (.slice tp tr.length tc) F ((F-0:Nat):Int) 0 0 fnn wr hrow (by omega));clear hbs hrow;go_wp2_with fail
   refine(G HT).mono ?_;rintro e w2 ⟨rfl,hO,hR2⟩;have HO:=J hO;have HR2:=J hR2;clear hO hR2 HT;go_wp2;go_ret2;have hb:=G HBR;refine⟨_,_,rfl,Or.inr ⟨rfl,?_⟩,?_⟩
   ·
    rw [hb.2.2.2.2.2.1];exact⟨rfl,sp,scc,tp,tc,es,fnn,hb.2.2.2.2.1.own (G HO) (G HR2) hb.2.2.2.2.1.scl hb.2.2.2.2.1.scb⟩
   ·
    exact(Gq (G HB0)).trans (hb.2.2.2.1.trans (Ux (G HO)))
  | succ m =>
   have HT:=J (Ziy pb (.slice (some ⟨fb,fo,none⟩) P.funcs.length fc) xv (.slice sp sc.length scc) (.slice tp tr.length tc) F ((F-(m+1):Nat):Int) 0 0 fnn wr hrow (by omega) (by omega) (by omega));clear hbs hrow;go_wp2_with fail
   refine(G HT).mono ?_;rintro e w2 ⟨rfl,hO,hR2⟩;rw [show((F-(m+1):Nat):Int)+1=((F-m:Nat):Int) by omega] at hR2;have hb:=G HBR;have hown:=hb.own (m':=m) (sp':=sp) (sc':=sc) (scc':=scc) (fnn':=fnn) hO;have hbs:Sg P w0 W w2 pb b vb sb w.heap.size gs N (.slice (some ⟨fb,fo,none⟩) P.funcs.length fc) xv F fn #[.slice pp1 fn.params.length pc1,.int .i64 fn.results,.slice pp2 fn.homes.length pc2,.slice pp3 fn.slots.length pc3,.slice pp4 fn.blocks.length pc4] r0 x0.o m (m+1) x sc tr es sp tp scc tc fnn:=⟨hb.1,hown.1,hown.2.1,hown.2.2.1,hown.2.2.2 hR2 hb.2.2.2.2.1.scl hb.2.2.2.2.1.scb,hb.2.2.2.2.2.1,hb.2.2.2.2.2.2.1,hb.2.2.2.2.2.2.2⟩;clear hO hR2 HT hb hown HBR;obtain⟨bb,bo,bc,isb,iso,ic,bn,nx,xap,xac,xop,xoc,hxb,hxi,hbl,hnl,hbv,hbc,hic,hxa,hxo⟩:=Znu (G HD) hbs.1.2.1 hbs.1.1;injection hbv with hbv1 hbv2 hbv3;have hlow:=hbs.2.2.2.2.1.low;have f4:w2.cell? ⟨w.heap.size,4,none⟩=some (.slice (some ⟨bb,bo,none⟩) fn.blocks.length bc):=by rw [← hbv1,← hbv3]; exact(cR hbs.2.2.1 4)
   have f5:w2.cell? ⟨bb,bo+bn,none⟩=some (.slice (some ⟨isb,iso,none⟩) (fn.blocks.getD bn []).length ic):=(hlow.cell (World.block_lt_of_cell? _ _ hbc)).trans hbc;generalize hbk:fn.blocks.getD bn []=bk at hnl f5;have hH:=(G HG).fnH hbs.1.2.1.fn;rw [hbs.1.1] at hH;have hbkl:bk.length≤24:=by rw [← hbk]; exact(hH.bk bn hbl).2
   have hbl12:=hH.b12;have HI0:=hbs.1.2.1.insG (G HG);cases hi:Zo x with
   | mk op d a bbb n1 f_ args outs =>
   rw [hi] at HI0 hic hxa hxo;dsimp only at hic hxa hxo;have hup:∀ j y,#[.int .i64 op,.int .i64 d,.int .i64 a,.int .i64 bbb,.int .u64 n1,.int .i64 f_,.slice xap args.length xac,.slice xop outs.length xoc][j]?=some y→w2.cell? ⟨isb,iso+nx*8+j,none⟩=some y:=fun j y hy=>(hlow.cell (World.block_lt_of_cell? _ _ (hic j y hy))).trans (hic j y hy);have i0:=hup 0 _ rfl;have i1:=hup 1 _ rfl;have i2:=hup 2 _ rfl;have i3:=hup 3 _ rfl;have i4:=hup 4 _ rfl;have i5:=hup 5 _ rfl;have i6:=hup 6 _ rfl;have i7:=hup 7 _ rfl;rw [Nat.add_zero] at i0;have HI:=J hi;have hop0:=HI0.op0;have hop1:=HI0.op1;simp only at hop0 hop1;have HXA:=J hxa;have HXO:=J hxo;have HXI:=J hxi;have HXB:=J hxb;have hBX:=My w2 #[.int .i64 0,.int .i64 0,.int .i64 0,.int .i64 0,.int .u64 0,.int .i64 0,.slice none 0 0,.slice none 0 0] #[.int .i64 op,.int .i64 d,.int .i64 a,.int .i64 bbb,.int .u64 n1,.int .i64 f_,.slice xap args.length xac,.slice xop outs.length xoc] 65;have HR2:=J hBX.2.2;have HX2:=J hBX.1;have HBS:=J (hbs.grow hBX.2.1);have hblI:(bn:Int)<(fn.blocks.length:Int):=by omega
   have hnlI:(nx:Int)<(bk.length:Int):=by omega
   clear hbs hlow hbc hic hxa hxo hup hBX hi HI0 hbk hH hbv1 hbv2 hbv3;rw [hxb,hxi];clear hxb hxi;go_upto_region 6 with(refine wpList_store_row rfl 65 _ _ rfl w2.heap.size #[.int .i64 op,.int .i64 d,.int .i64 a,.int .i64 bbb,.int .u64 n1,.int .i64 f_,.slice xap args.length xac,.slice xop outs.length xoc] rfl rfl 65 _ (G HR2) (Tryz.infInsI.trans rfl) rfl (by simp [Value.oneCell']) ?_)
   clear HR2 f4 f5 i0 i1 i2 i3 i4 i5 i6 i7;generalize World.setRow (World.alloc w2 _) _ _=V2 at HX2 HBS ⊢;generalize w2.heap.size=ib at HX2 ⊢;have o0:=cR (G HX2) 0;go_upto_block 2 with fail
   clear o0;have e1:(bn:Int)=x.b:=(G HXB).symm;have e2:(nx:Int)+1=x.i+1:=by rw [G HXI]
   rw [e1,e2];clear e1 e2;refine wp_block ?_;refine Jf (Q:=fun a w=>Code.wp Tryz.prog (Ml Tryz.f37 0) _ a w) (v:=.int .i64 op) (fun s hs=>?_) _ ?_ ?_
   ·
    have hG':=G HG;have hNV':=G HNV;have hB':=G HBS;have HI':=G HI;have hX':=G HX2;have hXA':=G HXA;have hXO':=G HXO;have hNN':∀ g,W.heap.size≤g→N g:=fun g hg=>G HN g (by omega);have hCL':=G HCALL m (by omega);have hBW':w.heap.size≤W.heap.size:=by omega
    have hmn':m<n:=by omega
    refine Znx hG' hNV' hB' HI' hX' hXA' hXO' hNN' hCL' hBW' hmn' hF hop0 hop1 hs ?_ ?_
    ·
     intro m' X V5 sc' tr' es' sp' tp' scc' tc' fnn' s' hm' hb5;have HB5:=J hb5;clear hG' hNV' hB' HI' hX' hXA' hXO' hNN' hCL' hb5 hs;rw [Xl];go_wp2_with fail
     go_roundg m'
     case measure=>omega
     case rel=>exact⟨X,sc',tr',es',sp',tp',scc',tc',fnn',rfl,rfl,by omega,G HB5⟩
    ·
     intro lp ln lc again V5 b0 b1 b2 b3 b4 b5 b6 b7 b10 b11 b12 s' hbr hkp;have HBR:=J hbr;have HKP:=J hkp;clear hG' hNV' hB' HI' hX' hXA' hXO' hNN' hCL' hbr hkp hs;rw [Xl];go_wp2_with fail
     go_ret2;exact⟨_,_,rfl,G HBR,(Gq (G HB0)).trans (G HKP)⟩
   ·
    rfl
   ·
    rfl
end Go.Proofs.YteddfaconabobaaGreatDoor
