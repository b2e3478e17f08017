import Derived.Test.YteddfaconabobaaGreatDoorPkU
import Derived.Test.YteddfaconabobaaGreatDoorPk
import Derived.Test.YteddfaconabobaaGreatDoorJ23
import Derived.Deep.LoopGhost
import Derived.Deep.RegionWith
import Derived.Test.YteddfaconabobaaGreatDoorFrL
import Derived.Test.YteddfaconabobaaGreatDoorJ14
import Derived.Test.YteddfaconabobaaGreatDoorJ18
namespace Go.Proofs.YteddfaconabobaaGreatDoor
open Go.RowKit
set_option maxHeartbeats 4000000 in
set_option maxRecDepth 100000 in
theorem Zgt {P:Zl}{w0 w:World}{rb b:Nat}{f:Mh}{R:List Mh}{frv tv fv scv vv:Value}{tr:List (Int×List Int)}{es:List Value}{kind steps:Int}(hG:Yp P)(hW:Lp P f.x)(hS:Xc w0 w rb b (f :: R) frv tv tr es)(hrow:Gv w rb fv scv frv kind vv tv steps){d a bb n F:Int}{args:List (Int×Int)}{outs:List Int}{o:Int}(hi:Zo f.x=⟨o,d,a,bb,n,F,args,outs⟩)(ho3:3≤o)(ho9:o≤9)(h0d:0≤d)(hd1:d.toNat<f.x.v.length)(h0a:0≤a)(ha1:a.toNat<f.x.v.length)(h0bb:0≤bb)(hb1:bb.toNat<f.x.v.length){ya yb y:Int}(hya:ya=f.x.v.getD a.toNat 0)(hyb:yb=f.x.v.getD bb.toNat 0)(hy:y=Mv o ya yb) :
 Calls Tryz.prog 65 #[.pointer (some ⟨rb,0,none⟩),.pointer (some ⟨f.q,0,none⟩)] w fun e w'=>(∃ v,e=.returned v)∧Gv w' rb fv scv frv kind vv tv steps∧Xc w0 w' rb b ({ f with x:={ Zp f.x with v:=f.x.v.set d.toNat y } } :: R) frv tv tr es∧Below b w w':=by
 obtain⟨d,rfl⟩:=Int.eq_ofNat_of_zero_le h0d;obtain⟨a,rfl⟩:=Int.eq_ofNat_of_zero_le h0a;obtain⟨bb,rfl⟩:=Int.eq_ofNat_of_zero_le h0bb;simp only [Int.toNat_natCast] at *;have HYA:=J hya;have HYB:=J hyb;have HYD:=J hy;clear hya hyb hy;have b1:(o==(1:Int))=false:=by simp; omega
 have b2:(o==(2:Int))=false:=by simp; omega
 have b10:(o==(10:Int))=false:=by simp; omega
 have b11:(o==(11:Int))=false:=by simp; omega
 have b12:(o==(12:Int))=false:=by simp; omega
 have b13:(o==(13:Int))=false:=by simp; omega
 have b14:(o==(14:Int))=false:=by simp; omega
 have b15:(o==(15:Int))=false:=by simp; omega
 have b16:(o==(16:Int))=false:=by simp; omega
 have b17:(o==(17:Int))=false:=by simp; omega
 have b18:(o==(18:Int))=false:=by simp; omega
 have HO3:=J ho3;have HO9:=J ho9;clear ho3 ho9;have HFE:=J (Gs hG hW hS ⟨o,(d:Int),(a:Int),(bb:Int),n,F,args,outs⟩ hi);have hrlo:=(hS.stk f List.mem_cons_self).2;have hbrb:=hS.rbb;have HW:=J hW;have HS:=J hS;have HROW:=J hrow;have hrl:=Zd hrow;have HI:=J hi;clear hS hrow hi hW;go_enter Tryz.func65,Tryz.ntmps65
 go_wp2_with fail
 refine(G HFE).mono ?_;rintro e w1 ⟨xap,xac,xop,xoc,rfl,hxa,hxo,hF1,hO1⟩;have hBX:=My w1 #[.int .i64 0,.int .i64 0,.int .i64 0,.int .i64 0,.int .u64 0,.int .i64 0,.slice none 0 0,.slice none 0 0] #[.int .i64 o,.int .i64 d,.int .i64 a,.int .i64 bb,.int .u64 n,.int .i64 F,.slice xap args.length xac,.slice xop outs.length xoc] 65;have HR2:=J hBX.2.2;have HX2:=J hBX.1;have HB2:=J hBX.2.1;have HS2:=J (((G HS).top hF1 hO1).grow hBX.2.1);have HR:=J (show Gv ((w1.alloc (.cells #[.int .i64 0,.int .i64 0,.int .i64 0,.int .i64 0,.int .u64 0,.int .i64 0,.slice none 0 0,.slice none 0 0] 65)).setRow w1.heap.size #[.int .i64 o,.int .i64 d,.int .i64 a,.int .i64 bb,.int .u64 n,.int .i64 F,.slice xap args.length xac,.slice xop outs.length xoc]) rb fv scv frv kind vv tv steps from(hBX.2.1.block rb (Nat.lt_of_lt_of_le hrl hO1.size)).trans ((hO1.oth rb hrl (Or.inl hrlo)).trans (G HROW)));have HBL:=J (show Below b w ((w1.alloc (.cells #[.int .i64 0,.int .i64 0,.int .i64 0,.int .i64 0,.int .u64 0,.int .i64 0,.slice none 0 0,.slice none 0 0] 65)).setRow w1.heap.size #[.int .i64 o,.int .i64 d,.int .i64 a,.int .i64 bb,.int .u64 n,.int .i64 F,.slice xap args.length xac,.slice xop outs.length xoc]) from Below.trans (b:=w1) ⟨hO1.os,hO1.tape,hO1.output,hO1.size,fun k hk=>hO1.oth k (by omega) (Or.inl (by omega))⟩ (hBX.2.1.mono (by have:=hO1.size; omega)));have HIBW:=J hO1.size;have HXA:=J hxa;have HXO:=J hxo;clear hBX hxa hxo hF1 hO1 HS HROW HFE
 dsimp only;go_upto_region 1 with(refine wpList_store_row rfl 65 _ _ rfl w1.heap.size #[.int .i64 o,.int .i64 d,.int .i64 a,.int .i64 bb,.int .u64 n,.int .i64 F,.slice xap args.length xac,.slice xop outs.length xoc] rfl rfl 65 _ (G HR2) (Tryz.infInsI.trans rfl) rfl (by simp [Value.oneCell']) ?_)
 clear HR2;generalize hX:World.setRow (World.alloc w1 _) _ _=V2 at HX2 HB2 HS2 HR HBL ⊢;clear hX;generalize hib:w1.heap.size=ib at HX2 HB2 HIBW ⊢;clear hib;have o0:=cR (G HX2) 0;have hF2:Gn w0 V2 (Zp f.x) f.q f.lo f.hi f.lg f.bp f.sp f.op f.bc f.sc f.oc f.gs f.B:=((G HS2).stk _ List.mem_cons_self).1;have HF2:=J hF2;clear hF2;go_upto_region 2 with fail
 clear o0;clear b1 b2 b10 b11 b12 b13 b14 b15 b16 b17 b18;have hF2:=G HF2;have hdI:(d:Int)<(f.x.v.length:Int):=by omega
 have haI:(a:Int)<(f.x.v.length:Int):=by omega
 have hbI:(bb:Int)<(f.x.v.length:Int):=by omega
 have HC0:=J (show(fun V=>V.cell? ⟨f.q,3,none⟩=some (.slice (some ⟨f.lg,0,none⟩) f.x.v.length f.x.v.length)∧V.cell? ⟨ib,0,none⟩=some (.int .i64 o)∧V.cell? ⟨ib,1,none⟩=some (.int .i64 (d:Int))∧V.cell? ⟨ib,2,none⟩=some (.int .i64 (a:Int))∧V.cell? ⟨ib,3,none⟩=some (.int .i64 (bb:Int))∧V.cell? ⟨f.lg,a,none⟩=some (.int .u64 ya)∧V.cell? ⟨f.lg,bb,none⟩=some (.int .u64 yb)) V2.drew from⟨(cR hF2.row 3),(cR (G HX2) 0),(cR (G HX2) 1),(cR (G HX2) 2),(cR (G HX2) 3),(Zi hF2.loc a).trans (by simp [uC,List.getD,Zp,ha1,G HYA]),(Zi hF2.loc bb).trans (by simp [uC,List.getD,Zp,hb1,G HYB])⟩);obtain⟨yd0,hyd0⟩:∃ y,y=f.x.v.getD d 0:=⟨_,rfl⟩;have gd:V2.drew.cell? ⟨f.lg,d,none⟩=some (.int .u64 yd0):=(Zi hF2.loc d).trans (by simp [uC,List.getD,Zp,hd1,hyd0]);have zd:V2.drew.frozen? ⟨f.lg,d,none⟩=false:=frozen_of_row _ _ d _ _ hF2.loc;have HF5:=J (show Gn w0 (V2.drew.setCell ⟨f.lg,d,none⟩ (.int .u64 y)) { Zp f.x with v:=f.x.v.set d y } f.q f.lo f.hi f.lg f.bp f.sp f.op f.bc f.sc f.oc f.gs f.B from Zad (Yk hF2 (Below.refl _ _).drew) d y);have HO5:=J (show Sx f.lo f.hi V2 (V2.drew.setCell ⟨f.lg,d,none⟩ (.int .u64 y)) from⟨rfl,rfl,rfl,by simp,fun q _ hq=>heap_setCell_other _ _ _ _ (by show q≠f.lg; have:=hF2.gl; have:=hF2.gh; simp only at *; omega)⟩);have HC:=J (Zik o ya yb V2.drew);rw [← G HYD] at HC;clear hF2 hyd0 HYA HYB HYD;refine Xw (C:=fun V=>V.cell? ⟨f.q,3,none⟩=some (.slice (some ⟨f.lg,0,none⟩) f.x.v.length f.x.v.length)∧V.cell? ⟨ib,0,none⟩=some (.int .i64 o)∧V.cell? ⟨ib,1,none⟩=some (.int .i64 (d:Int))∧V.cell? ⟨ib,2,none⟩=some (.int .i64 (a:Int))∧V.cell? ⟨ib,3,none⟩=some (.int .i64 (bb:Int))∧V.cell? ⟨f.lg,a,none⟩=some (.int .u64 ya)∧V.cell? ⟨f.lg,bb,none⟩=some (.int .u64 yb)) (d:=26) (by kernel_rfl) ?_
 refine uT 0 (G HC0) ?_;try simp only [Act.put,zA,zB,zC,zD,zE]
 refine uT 1 (G HC0) ?_;try simp only [Act.put,zA,zB,zC,zD,zE,zF]
 refine uT 2 (G HC0) ?_;try simp only [Act.put,zA,zB,zC,zD,zE,zF]
 refine uT 3 (G HC0) ?_;try simp only [Act.put,zA,zB,zC,zD,zE,zF]
 refine uT 4 (G HC0) ?_;try simp only [Act.put,zA,zB,zC,zD,zE,zF]
 refine uT 5 (G HC0) ?_;try simp only [Act.put,zA,zB,zC,zD,zE,zF]
 refine uT 6 (G HC0) ?_;try simp only [Act.put,zA,zB,zC,zD,zE,zF]
 refine uT 7 (G HC0) ?_;try simp only [Act.put,zA,zB,zC,zD,zE,zF]
 refine uT 8 (G HC0) ?_;try simp only [Act.put,zA,zB,zC,zD,zE,zF]
 refine uT 9 (G HC0) ?_;try simp only [Act.put,zA,zB,zC,zD,zE,zF]
 refine uT 10 (G HC0) ?_;try simp only [Act.put,zA,zB,zC,zD,zE,zF]
 refine uT 11 (G HC0) ?_;try simp only [Act.put,zA,zB,zC,zD,zE,zF]
 refine uT 12 (G HC0) ?_;try simp only [Act.put,zA,zB,zC,zD,zE,zF]
 refine uT 13 (G HC0) ?_;try simp only [Act.put,zA,zB,zC,zD,zE,zF]
 refine uT 14 (G HC0) ?_;try simp only [Act.put,zA,zB,zC,zD,zE,zF]
 refine uT 15 (G HC0) ?_;try simp only [Act.put,zA,zB,zC,zD,zE,zF]
 refine uT 16 (G HC0) ?_;try simp only [Act.put,zA,zB,zC,zD,zE,zF]
 refine uT 17 (G HC0) ?_;try simp only [Act.put,zA,zB,zC,zD,zE,zF]
 refine uT 18 (G HC0) ?_;try simp only [Act.put,zA,zB,zC,zD,zE,zF]
 refine uT 19 (G HC0) ?_;try simp only [Act.put,zA,zB,zC,zD,zE,zF]
 refine uT 20 (G HC0) ?_;try simp only [Act.put,zA,zB,zC,zD,zE,zF]
 refine uT 21 (G HC0) ?_;try simp only [Act.put,zA,zB,zC,zD,zE,zF]
 refine uT 22 (G HC0) ?_;try simp only [Act.put,zA,zB,zC,zD,zE,zF]
 refine uT 23 (G HC0) ?_;try simp only [Act.put,zA,zB,zC,zD,zE,zF]
 refine uO 24 fun K hK=>?_;go_simp;refine(G HC).mono ?_;rintro e w5 ⟨rfl,hw5⟩;subst w5;refine hK.out _ _ (fun _=>G HC0) ?_;clear hK K;try simp only [Act.put,zA,zB,zC,zD,zE,zF]
 refine uO 25 fun K hK=>?_;go_simp;refine hK.out _ _ (fun _=>G HC0) ?_;clear hK K;try simp only [Act.put,zA,zB,zC,zD,zE,zF]
 refine uO 26 fun K hK=>?_;go_simp;refine hK.out _ _ (fun h=>(by cases h)) ?_;clear hK K;try simp only [Act.put,zA,zB,zC,zD,zE,zF]
 refine Gc (by kernel_rfl) ?_ _;go_wp2;go_returns;have hS2:=G HS2;have hO5:=G HO5;refine⟨⟨_,rfl⟩,(hO5.oth rb (Zd (G HR)) (Or.inl hrlo)).trans (G HR),hS2.top (G HF5) hO5,(G HBL).trans ⟨hO5.os,hO5.tape,hO5.output,hO5.size,fun k hk=>hO5.oth k (by have:=Zd (G HR); omega) (Or.inl (by show k<f.lo; omega))⟩⟩
set_option maxHeartbeats 4000000 in
set_option maxRecDepth 100000 in
theorem Zji {P:Zl}{w0 w:World}{rb b:Nat}{f:Mh}{R:List Mh}{frv tv fv vv:Value}{tr:List (Int×List Int)}{es:List Value}{kind steps:Int}{sp:Option Addr}{scc:Nat}{sc:List Int}(hG:Yp P)(hW:Lp P f.x)(hS:Xc w0 w rb b (f :: R) frv tv tr es)(hrow:Gv w rb fv (.slice sp sc.length scc) frv kind vv tv steps)(hsc:Lv w0 (.slice sp sc.length scc) sc){d a bb n F:Int}{args:List (Int×Int)}{outs:List Int}(hi:Zo f.x=⟨13,d,a,bb,n,F,args,outs⟩)(htl:tr.length≤100000) :
 Calls Tryz.prog 65 #[.pointer (some ⟨rb,0,none⟩),.pointer (some ⟨f.q,0,none⟩)] w fun e w'=>(∃ v,e=.returned v)∧∃ tp' tc' sp' sc' wv,Gv w' rb fv (.slice sp' (sc.drop outs.length).length sc') frv kind vv (.slice tp' (tr.length+1) tc') steps∧Lv w0 (.slice sp' (sc.drop outs.length).length sc') (sc.drop outs.length)∧Xc w0 w' rb b ({ f with x:={ Zp f.x with v:=Xp f.x.v outs (Yt sc outs.length) } } :: R) frv (.slice tp' (tr.length+1) tc') (tr++[(F,Zv f.x args)]) (es++[wv])∧Below b w w':=by
 obtain⟨tp,tc,rfl⟩:=Zm hS.tr.row;have hwc:=Zea hG hW (by rw [hi]);rw [hi] at hwc;dsimp only at hwc;obtain⟨hcO,hcl4,hcl,hcA⟩:=hwc;have HCA:=J hcA;have HCO:=J hcO;have HSC:=J hsc;have HSM:=J (hW.small hG);have HOK:=J hW.ok;clear hcA hcO hsc;have HFE:=J (Gs hG hW hS ⟨13,d,a,bb,n,F,args,outs⟩ hi);have hrlo:=(hS.stk f List.mem_cons_self).2;have hbrb:=hS.rbb;have HW:=J hW;have HS:=J hS;have HROW:=J hrow;have hrl:=Zd hrow;have HI:=J hi;clear hS hrow hi hW;go_enter Tryz.func65,Tryz.ntmps65
 go_wp2_with fail
 refine(G HFE).mono ?_;rintro e w1 ⟨xap,xac,xop,xoc,rfl,hxa,hxo,hF1,hO1⟩;have hBX:=My w1 #[.int .i64 0,.int .i64 0,.int .i64 0,.int .i64 0,.int .u64 0,.int .i64 0,.slice none 0 0,.slice none 0 0] #[.int .i64 13,.int .i64 d,.int .i64 a,.int .i64 bb,.int .u64 n,.int .i64 F,.slice xap args.length xac,.slice xop outs.length xoc] 65;have HR2:=J hBX.2.2;have HX2:=J hBX.1;have HB2:=J hBX.2.1;have HS2:=J (((G HS).top hF1 hO1).grow hBX.2.1);have HR:=J (show Gv ((w1.alloc (.cells #[.int .i64 0,.int .i64 0,.int .i64 0,.int .i64 0,.int .u64 0,.int .i64 0,.slice none 0 0,.slice none 0 0] 65)).setRow w1.heap.size #[.int .i64 13,.int .i64 d,.int .i64 a,.int .i64 bb,.int .u64 n,.int .i64 F,.slice xap args.length xac,.slice xop outs.length xoc]) rb fv (.slice sp sc.length scc) frv kind vv (.slice tp tr.length tc) steps from(hBX.2.1.block rb (Nat.lt_of_lt_of_le hrl hO1.size)).trans ((hO1.oth rb hrl (Or.inl hrlo)).trans (G HROW)));have HBL:=J (show Below b w ((w1.alloc (.cells #[.int .i64 0,.int .i64 0,.int .i64 0,.int .i64 0,.int .u64 0,.int .i64 0,.slice none 0 0,.slice none 0 0] 65)).setRow w1.heap.size #[.int .i64 13,.int .i64 d,.int .i64 a,.int .i64 bb,.int .u64 n,.int .i64 F,.slice xap args.length xac,.slice xop outs.length xoc]) from Below.trans (b:=w1) ⟨hO1.os,hO1.tape,hO1.output,hO1.size,fun k hk=>hO1.oth k (by omega) (Or.inl (by omega))⟩ (hBX.2.1.mono (by have:=hO1.size; omega)));have HIBW:=J hO1.size;have HXA:=J hxa
 have HXO:=J hxo;clear hBX hxa hxo hF1 hO1 HS HROW HFE;dsimp only;go_upto_region 1 with(refine wpList_store_row rfl 65 _ _ rfl w1.heap.size #[.int .i64 13,.int .i64 d,.int .i64 a,.int .i64 bb,.int .u64 n,.int .i64 F,.slice xap args.length xac,.slice xop outs.length xoc] rfl rfl 65 _ (G HR2) (Tryz.infInsI.trans rfl) rfl (by simp [Value.oneCell']) ?_)
 clear HR2;generalize hX:World.setRow (World.alloc w1 _) _ _=V2 at HX2 HB2 HS2 HR HBL ⊢;clear hX;generalize hib:w1.heap.size=ib at HX2 HB2 HIBW ⊢;clear hib;have o0:=cR (G HX2) 0;have hF2:Gn w0 V2 (Zp f.x) f.q f.lo f.hi f.lg f.bp f.sp f.op f.bc f.sc f.oc f.gs f.B:=((G HS2).stk _ List.mem_cons_self).1;have HF2:=J hF2;clear hF2;go_upto_region 14 with fail
 clear o0;have o0:=cR (G HX2) 0;have o1:=cR (G HX2) 1;have o2:=cR (G HX2) 2;have o3:=cR (G HX2) 3;have o4:=cR (G HX2) 4;have o5:=cR (G HX2) 5;have o6:=cR (G HX2) 6;have o7:=cR (G HX2) 7;have HC:=J (Zpf w0 V2 rb b { f with x:=Zp f.x } R frv fv vv tp sp xap xop tc scc xac xoc tr es sc kind steps 13 d a bb n F args outs (G HS2) (G HR) (G HSC) ⟨(G HOK).v,(G HOK).s⟩ (G HXA) (G HXO) (by omega) (fun k hk=>⟨(G HCA k hk).w0,(G HCA k hk).w8,(G HCA k hk).f0,(G HCA k hk).v,(G HCA k hk).s⟩) (G HSM) hcl4 (G HCO) htl);go_wp2_with fail
 refine(G HC).mono ?_;rintro e w5 ⟨⟨v5,rfl⟩,tp5,tc5,sp5,sc5,wv5,hR5,hL5,hS5,hB5⟩;have HR5:=J hR5;have HL5:=J hL5;have HS5:=J hS5;have HB5:=J hB5;clear hR5 hL5 hS5 hB5 HC o0 o1 o2 o3 o4 o5 o6 o7;go_wp2;go_returns;exact⟨⟨_,rfl⟩,tp5,tc5,sp5,sc5,wv5,G HR5,G HL5,G HS5,(G HBL).trans (G HB5)⟩
set_option maxHeartbeats 4000000 in
set_option maxRecDepth 100000 in
theorem Zgv {P:Zl}{w0 w:World}{rb b:Nat}{f:Mh}{R:List Mh}{frv tv fv scv vv:Value}{tr:List (Int×List Int)}{es:List Value}{kind steps:Int}(hG:Yp P)(hW:Lp P f.x)(hS:Xc w0 w rb b (f :: R) frv tv tr es)(hrow:Gv w rb fv scv frv kind vv tv steps){d a bb n F:Int}{args:List (Int×Int)}{outs:List Int}(hi:Zo f.x=⟨18,d,a,bb,n,F,args,outs⟩) :
 Calls Tryz.prog 65 #[.pointer (some ⟨rb,0,none⟩),.pointer (some ⟨f.q,0,none⟩)] w fun e w'=>(∃ v,e=.returned v)∧∃ vp vc,Gv w' rb fv scv frv 2 (.slice vp 1 vc) tv steps∧Xc w0 w' rb b ({ f with x:=Zp f.x } :: R) frv tv tr es∧w'.ownsRow b 62 1 (.slice vp 1 vc) 1 (uC [n])∧Below b w w':=by
 have HFE:=J (Gs hG hW hS ⟨18,d,a,bb,n,F,args,outs⟩ hi);have hrlo:=(hS.stk f List.mem_cons_self).2;have hbrb:=hS.rbb;have HW:=J hW;have HS:=J hS;have HROW:=J hrow;have hrl:=Zd hrow;have HI:=J hi;clear hS hrow hi hW;go_enter Tryz.func65,Tryz.ntmps65
 go_wp2_with fail
 refine(G HFE).mono ?_;rintro e w1 ⟨xap,xac,xop,xoc,rfl,hxa,hxo,hF1,hO1⟩;have hBX:=My w1 #[.int .i64 0,.int .i64 0,.int .i64 0,.int .i64 0,.int .u64 0,.int .i64 0,.slice none 0 0,.slice none 0 0] #[.int .i64 18,.int .i64 d,.int .i64 a,.int .i64 bb,.int .u64 n,.int .i64 F,.slice xap args.length xac,.slice xop outs.length xoc] 65;have HR2:=J hBX.2.2;have HX2:=J hBX.1;have HB2:=J hBX.2.1;have HS2:=J (((G HS).top hF1 hO1).grow hBX.2.1);have HR:=J (show Gv ((w1.alloc (.cells #[.int .i64 0,.int .i64 0,.int .i64 0,.int .i64 0,.int .u64 0,.int .i64 0,.slice none 0 0,.slice none 0 0] 65)).setRow w1.heap.size #[.int .i64 18,.int .i64 d,.int .i64 a,.int .i64 bb,.int .u64 n,.int .i64 F,.slice xap args.length xac,.slice xop outs.length xoc]) rb fv scv frv kind vv tv steps from(hBX.2.1.block rb (Nat.lt_of_lt_of_le hrl hO1.size)).trans ((hO1.oth rb hrl (Or.inl hrlo)).trans (G HROW)));have HBL:=J (show Below b w ((w1.alloc (.cells #[.int .i64 0,.int .i64 0,.int .i64 0,.int .i64 0,.int .u64 0,.int .i64 0,.slice none 0 0,.slice none 0 0] 65)).setRow w1.heap.size #[.int .i64 18,.int .i64 d,.int .i64 a,.int .i64 bb,.int .u64 n,.int .i64 F,.slice xap args.length xac,.slice xop outs.length xoc]) from Below.trans (b:=w1) ⟨hO1.os,hO1.tape,hO1.output,hO1.size,fun k hk=>hO1.oth k (by omega) (Or.inl (by omega))⟩ (hBX.2.1.mono (by have:=hO1.size; omega)));have HIBW:=J hO1.size;have HXA:=J hxa;have HXO:=J hxo;clear hBX hxa hxo hF1 hO1 HS HROW HFE
 dsimp only;go_upto_region 1 with(refine wpList_store_row rfl 65 _ _ rfl w1.heap.size #[.int .i64 18,.int .i64 d,.int .i64 a,.int .i64 bb,.int .u64 n,.int .i64 F,.slice xap args.length xac,.slice xop outs.length xoc] rfl rfl 65 _ (G HR2) (Tryz.infInsI.trans rfl) rfl (by simp [Value.oneCell']) ?_)
 clear HR2;generalize hX:World.setRow (World.alloc w1 _) _ _=V2 at HX2 HB2 HS2 HR HBL ⊢;clear hX;generalize hib:w1.heap.size=ib at HX2 HB2 HIBW ⊢;clear hib;have o0:=cR (G HX2) 0;have hF2:Gn w0 V2 (Zp f.x) f.q f.lo f.hi f.lg f.bp f.sp f.op f.bc f.sc f.oc f.gs f.B:=((G HS2).stk _ List.mem_cons_self).1;have HF2:=J hF2;clear hF2;go_upto_region 25 with fail
 clear o0;have o4:=cR (G HX2) 4;obtain⟨r3,hb3,hz3⟩:=Yj V2 (.cells #[.int .u64 n] 62 (0,0));have HS3:=J ((G HS2).grow hb3);have HR3:=J ((hb3.block rb (Zd (G HR))).trans (G HR));have HB3:=J ((G HBL).trans (hb3.mono (by have:=Zd (G HR); omega)));have HV3:=J r3;have HC:=J (Zmw rb fv scv frv vv tv (some ⟨V2.heap.size,0,none⟩) 1 1 kind 2 steps _ (G HR3));have hvr:=Zd (G HR);clear r3 hb3 hz3;go_wp2_with fail
 refine(G HC).mono ?_;rintro e w5 ⟨⟨v5,rfl⟩,hO5,hR5⟩;have HR5:=J hR5;have HO5:=J hO5;clear hR5 hO5 HC o4;go_wp2;go_returns;have hO5:=G HO5;have hS5:=(G HS3).own ⟨_,G HR3⟩ hO5;refine⟨⟨_,rfl⟩,some ⟨V2.heap.size,0,none⟩,1,G HR5,hS5,?_,(G HB3).trans (Mn hO5 hbrb)⟩;refine Yq (V:=V2.alloc (.cells #[.int .u64 n] 62 (0,0))) ⟨rfl,.inr ⟨V2.heap.size,1,_,rfl,by omega,G HV3,Nat.le_refl _,by decide,rfl,rfl⟩⟩ fun g hg=>hO5.oth g (by injection hg with hg; subst hg; show V2.heap.size≠rb; omega)
set_option maxHeartbeats 4000000 in
set_option maxRecDepth 100000 in
theorem Zgw {P:Zl}{w0 w:World}{rb b:Nat}{f:Mh}{frv tv fv scv vv:Value}{tr:List (Int×List Int)}{es:List Value}{kind steps:Int}(hG:Yp P)(hW:Lp P f.x)(hS:Xc w0 w rb b [f] frv tv tr es)(hrow:Gv w rb fv scv frv kind vv tv steps){d a bb n F:Int}{args:List (Int×Int)}{outs:List Int}(hi:Zo f.x=⟨16,d,a,bb,n,F,args,outs⟩) :
 Calls Tryz.prog 65 #[.pointer (some ⟨rb,0,none⟩),.pointer (some ⟨f.q,0,none⟩)] w fun e w'=>(∃ v,e=.returned v)∧∃ frv' vp vc,Gv w' rb fv scv frv' 1 (.slice vp outs.length vc) tv steps∧Xc w0 w' rb b [] frv' tv tr es∧w'.ownsRow b 62 1 (.slice vp outs.length vc) outs.length (uC (Xf f.x.v outs))∧Below b w w':=by
 obtain⟨g,gc,rfl⟩:=Ob hS.fr;have hwc:=Zbf hG hW (by rw [hi]);rw [hi] at hwc;dsimp only at hwc;obtain⟨hres,hcl4,hcO⟩:=hwc;have HCO:=J hcO;have HVL:=J (show(Xf f.x.v outs).length=outs.length by simp [Xf]);have HOUS:=J (hS.stk f List.mem_cons_self).1.ous;clear hcO hres;have HFE:=J (Gs hG hW hS ⟨16,d,a,bb,n,F,args,outs⟩ hi);have hrlo:=(hS.stk f List.mem_cons_self).2;have hbrb:=hS.rbb;have HW:=J hW;have HS:=J hS;have HROW:=J hrow;have hrl:=Zd hrow;have HI:=J hi;clear hS hrow hi hW;go_enter Tryz.func65,Tryz.ntmps65
 go_wp2_with fail
 refine(G HFE).mono ?_;rintro e w1 ⟨xap,xac,xop,xoc,rfl,hxa,hxo,hF1,hO1⟩;have hBX:=My w1 #[.int .i64 0,.int .i64 0,.int .i64 0,.int .i64 0,.int .u64 0,.int .i64 0,.slice none 0 0,.slice none 0 0] #[.int .i64 16,.int .i64 d,.int .i64 a,.int .i64 bb,.int .u64 n,.int .i64 F,.slice xap args.length xac,.slice xop outs.length xoc] 65;have HR2:=J hBX.2.2;have HX2:=J hBX.1;have HB2:=J hBX.2.1;have HS2:=J (((G HS).top hF1 hO1).grow hBX.2.1);have HR:=J (show Gv ((w1.alloc (.cells #[.int .i64 0,.int .i64 0,.int .i64 0,.int .i64 0,.int .u64 0,.int .i64 0,.slice none 0 0,.slice none 0 0] 65)).setRow w1.heap.size #[.int .i64 16,.int .i64 d,.int .i64 a,.int .i64 bb,.int .u64 n,.int .i64 F,.slice xap args.length xac,.slice xop outs.length xoc]) rb fv scv (.slice (some ⟨g,0,none⟩) (0+1) gc) kind vv tv steps from(hBX.2.1.block rb (Nat.lt_of_lt_of_le hrl hO1.size)).trans ((hO1.oth rb hrl (Or.inl hrlo)).trans (G HROW)));have HBL:=J (show Below b w ((w1.alloc (.cells #[.int .i64 0,.int .i64 0,.int .i64 0,.int .i64 0,.int .u64 0,.int .i64 0,.slice none 0 0,.slice none 0 0] 65)).setRow w1.heap.size #[.int .i64 16,.int .i64 d,.int .i64 a,.int .i64 bb,.int .u64 n,.int .i64 F,.slice xap args.length xac,.slice xop outs.length xoc]) from Below.trans (b:=w1) ⟨hO1.os,hO1.tape,hO1.output,hO1.size,fun k hk=>hO1.oth k (by omega) (Or.inl (by omega))⟩ (hBX.2.1.mono (by have:=hO1.size; omega)));have HIBW:=J hO1.size;have HXA:=J hxa
 have HXO:=J hxo;clear hBX hxa hxo hF1 hO1 HS HROW HFE;dsimp only;go_upto_region 1 with(refine wpList_store_row rfl 65 _ _ rfl w1.heap.size #[.int .i64 16,.int .i64 d,.int .i64 a,.int .i64 bb,.int .u64 n,.int .i64 F,.slice xap args.length xac,.slice xop outs.length xoc] rfl rfl 65 _ (G HR2) (Tryz.infInsI.trans rfl) rfl (by simp [Value.oneCell']) ?_)
 clear HR2;generalize hX:World.setRow (World.alloc w1 _) _ _=V2 at HX2 HB2 HS2 HR HBL ⊢;clear hX;generalize hib:w1.heap.size=ib at HX2 HB2 HIBW ⊢;clear hib;have o0:=cR (G HX2) 0;have hF2:Gn w0 V2 (Zp f.x) f.q f.lo f.hi f.lg f.bp f.sp f.op f.bc f.sc f.oc f.gs f.B:=((G HS2).stk _ List.mem_cons_self).1;have HF2:=J hF2;clear hF2;go_upto_region 20 with fail
 clear o0;have HSK:=J (fun(V:World) (h:V.heap[ib]?=V2.heap[ib]?) (h':V.heap[f.q]?=V2.heap[f.q]?)=>show V.cell? ⟨ib,7,none⟩=some (.slice xop outs.length xoc)∧V.cell? ⟨f.q,5,none⟩=some (.slice f.op f.x.o.length f.oc) from⟨(cR (h.trans (G HX2)) 7),(cR (h'.trans (G HF2).row) 5)⟩);have HWD:=J (Zcp w0 (Zp f.x) f.q f.lo f.hi f.lg f.bp f.sp f.op f.bc f.sc f.oc f.gs f.B outs xop xoc V2.drew (Yk (G HF2) (Below.refl _ _).drew) ((G HXO).below (G HS2).low.drew) (by omega) (G HCO));have hibl:=Zd (G HX2);have hql:=Zd (G HF2).row;have hrV:=Zd (G HR);have hibrb:ib≠rb:=fun e=>Zs (G HX2) (G HR) (by decide) e;have hqrb:f.q≠rb:=by have:=(G HF2).ql; omega
 have HEN:=J (fun(w5:World) (hb5:Below V2.heap.size V2 w5) (wp:Option Addr) (wc:Nat)=>Zed w0 w5 rb b { f with x:=Zp f.x } g gc fv scv vv tv tr es kind steps wp f.op outs.length wc f.x.o.length f.oc ((G HS2).grow hb5) ((hb5.block rb hrV).trans (G HR)));clear HXA HXO HCO HOUS;go_region_held3 (fun V=>V.cell? ⟨ib,7,none⟩=some (.slice xop outs.length xoc)∧V.cell? ⟨f.q,5,none⟩=some (.slice f.op f.x.o.length f.oc)) ((first | exact G HSK _ rfl rfl | exact G HSK _ ((G HB5).block ib hibl) ((G HB5).block f.q hql) | exact G HSK _ (G HI6).1 (G HI6).2)) ((first | (go_at_call 90; refine(G HWD).mono ?_; rintro e w5 ⟨wv,rfl,hwo,hb5⟩; obtain⟨wp,wc,rfl⟩:=Zm hwo; have HB5:=J (show Below V2.heap.size V2 w5 from⟨hb5.os,hb5.tape,hb5.output,hb5.size,hb5.block⟩); have HE5:=J (G HEN w5 (G HB5) wp wc); have HWO:=J (show w5.ownsRow V2.heap.size 62 1 (.slice wp outs.length wc) outs.length (uC (Xf f.x.v outs)) from hwo); clear hwo hb5) | (go_at_call 89; refine(G HE5).mono ?_; rintro e w6 ⟨⟨v6,rfl⟩,hR6,hS6,hO6⟩; have HI6:=J (show w6.heap[ib]?=V2.heap[ib]?∧w6.heap[f.q]?=V2.heap[f.q]? from⟨(hO6.oth ib hibrb).trans ((G HB5).block ib hibl),(hO6.oth f.q hqrb).trans ((G HB5).block f.q hql)⟩); have HR6:=J hR6; have HS6:=J hS6; have HO6:=J hO6; clear hR6 hS6 hO6)))
 all_goals
  go_wp2;go_returns;exact⟨⟨_,rfl⟩,_,wp,wc,G HR6,G HS6,Gy (Yq (G HWO) fun q hq=>(G HO6).oth q (by have:=((G HWO).lt q hq).1; omega)) (by omega),(G HBL).trans (((G HB5).mono (by omega)).trans (Mn (G HO6) hbrb))⟩
set_option maxHeartbeats 4000000 in
set_option maxRecDepth 100000 in
theorem Zgx {P:Zl}{w0 w:World}{rb b:Nat}{f:Mh}{R:List Mh}{frv tv fv scv vv:Value}{tr:List (Int×List Int)}{es:List Value}{kind steps:Int}{c:Mh}(hG:Yp P)(hW:Lp P f.x)(hS:Xc w0 w rb b (f :: c :: R) frv tv tr es)(hrow:Gv w rb fv scv frv kind vv tv steps){d a bb n F:Int}{args:List (Int×Int)}{outs:List Int}(hi:Zo f.x=⟨16,d,a,bb,n,F,args,outs⟩)(hol:f.x.o.length=outs.length)(hio:∀ k,k<f.x.o.length→0≤f.x.o.getD k 0∧f.x.o.getD k 0<c.x.v.length)(hst:R.length≤50000) :
 Calls Tryz.prog 65 #[.pointer (some ⟨rb,0,none⟩),.pointer (some ⟨f.q,0,none⟩)] w fun e w'=>(∃ v,e=.returned v)∧∃ frv',Gv w' rb fv scv frv' kind vv tv steps∧Xc w0 w' rb b ({ c with x:={ c.x with v:=Xp c.x.v f.x.o (Xf f.x.v outs) } } :: R) frv' tv tr es∧Below b w w':=by
 obtain⟨g,gc,rfl⟩:=Ob hS.fr;have hwc:=Zbf hG hW (by rw [hi]);rw [hi] at hwc;dsimp only at hwc;obtain⟨hres,hcl4,hcO⟩:=hwc;have HCO:=J hcO;have HVL:=J (show(Xf f.x.v outs).length=outs.length by simp [Xf]);have HOUS:=J (hS.stk f List.mem_cons_self).1.ous;have HIO:=J hio;have HOL:=J hol;have HCH:=J (hS.stk c (List.mem_cons_of_mem _ List.mem_cons_self)).1.hs;have HPR:=J (hS.pair c List.mem_cons_self);clear hio hol;clear hcO hres;have HFE:=J (Gs hG hW hS ⟨16,d,a,bb,n,F,args,outs⟩ hi);have hrlo:=(hS.stk f List.mem_cons_self).2;have hbrb:=hS.rbb;have HW:=J hW;have HS:=J hS;have HROW:=J hrow;have hrl:=Zd hrow;have HI:=J hi;clear hS hrow hi hW;go_enter Tryz.func65,Tryz.ntmps65
 go_wp2_with fail
 refine(G HFE).mono ?_;rintro e w1 ⟨xap,xac,xop,xoc,rfl,hxa,hxo,hF1,hO1⟩;have hBX:=My w1 #[.int .i64 0,.int .i64 0,.int .i64 0,.int .i64 0,.int .u64 0,.int .i64 0,.slice none 0 0,.slice none 0 0] #[.int .i64 16,.int .i64 d,.int .i64 a,.int .i64 bb,.int .u64 n,.int .i64 F,.slice xap args.length xac,.slice xop outs.length xoc] 65;have HR2:=J hBX.2.2;have HX2:=J hBX.1;have HB2:=J hBX.2.1;have HS2:=J (((G HS).top hF1 hO1).grow hBX.2.1);have HR:=J (show Gv ((w1.alloc (.cells #[.int .i64 0,.int .i64 0,.int .i64 0,.int .i64 0,.int .u64 0,.int .i64 0,.slice none 0 0,.slice none 0 0] 65)).setRow w1.heap.size #[.int .i64 16,.int .i64 d,.int .i64 a,.int .i64 bb,.int .u64 n,.int .i64 F,.slice xap args.length xac,.slice xop outs.length xoc]) rb fv scv (.slice (some ⟨g,0,none⟩) (R.length+1+1) gc) kind vv tv steps from(hBX.2.1.block rb (Nat.lt_of_lt_of_le hrl hO1.size)).trans ((hO1.oth rb hrl (Or.inl hrlo)).trans (G HROW)));have HBL:=J (show Below b w ((w1.alloc (.cells #[.int .i64 0,.int .i64 0,.int .i64 0,.int .i64 0,.int .u64 0,.int .i64 0,.slice none 0 0,.slice none 0 0] 65)).setRow w1.heap.size #[.int .i64 16,.int .i64 d,.int .i64 a,.int .i64 bb,.int .u64 n,.int .i64 F,.slice xap args.length xac,.slice xop outs.length xoc]) from Below.trans (b:=w1) ⟨hO1.os,hO1.tape,hO1.output,hO1.size,fun k hk=>hO1.oth k (by omega) (Or.inl (by omega))⟩ (hBX.2.1.mono (by have:=hO1.size; omega)));have HIBW:=J hO1.size;have HXA:=J hxa
 have HXO:=J hxo;clear hBX hxa hxo hF1 hO1 HS HROW HFE;dsimp only;go_upto_region 1 with(refine wpList_store_row rfl 65 _ _ rfl w1.heap.size #[.int .i64 16,.int .i64 d,.int .i64 a,.int .i64 bb,.int .u64 n,.int .i64 F,.slice xap args.length xac,.slice xop outs.length xoc] rfl rfl 65 _ (G HR2) (Tryz.infInsI.trans rfl) rfl (by simp [Value.oneCell']) ?_)
 clear HR2;generalize hX:World.setRow (World.alloc w1 _) _ _=V2 at HX2 HB2 HS2 HR HBL ⊢;clear hX;generalize hib:w1.heap.size=ib at HX2 HB2 HIBW ⊢;clear hib;have o0:=cR (G HX2) 0;have hF2:Gn w0 V2 (Zp f.x) f.q f.lo f.hi f.lg f.bp f.sp f.op f.bc f.sc f.oc f.gs f.B:=((G HS2).stk _ List.mem_cons_self).1;have HF2:=J hF2;clear hF2;go_upto_region 20 with fail
 clear o0;have HSK:=J (fun(V:World) (h:V.heap[ib]?=V2.heap[ib]?) (h':V.heap[f.q]?=V2.heap[f.q]?)=>show V.cell? ⟨ib,7,none⟩=some (.slice xop outs.length xoc)∧V.cell? ⟨f.q,5,none⟩=some (.slice f.op f.x.o.length f.oc) from⟨(cR (h.trans (G HX2)) 7),(cR (h'.trans (G HF2).row) 5)⟩);have HWD:=J (Zcp w0 (Zp f.x) f.q f.lo f.hi f.lg f.bp f.sp f.op f.bc f.sc f.oc f.gs f.B outs xop xoc V2.drew (Yk (G HF2) (Below.refl _ _).drew) ((G HXO).below (G HS2).low.drew) (by omega) (G HCO));have hibl:=Zd (G HX2);have hql:=Zd (G HF2).row;have hrV:=Zd (G HR);have hibrb:ib≠rb:=fun e=>Zs (G HX2) (G HR) (by decide) e;have hqrb:f.q≠rb:=by have:=(G HF2).ql; omega
 have hibc:c.hi≤ib:=Nat.le_trans (G HCH) (G HIBW);have hqc:c.hi≤f.q:=by have:=(G HF2).ql; have:=G HPR; omega
 have HEN:=J (fun(w5:World) (hb5:Below V2.heap.size V2 w5) (wp:Option Addr) (wc:Nat) (hwo:w5.ownsRow V2.heap.size 62 1 (.slice wp (Xf f.x.v outs).length wc) (Xf f.x.v outs).length (uC (Xf f.x.v outs)))=>Zee w0 w5 rb b { f with x:=Zp f.x } c R g R.length gc V2.heap.size fv scv vv tv tr es kind steps (Xf f.x.v outs) f.x.o wp f.op wc f.oc rfl ((G HS2).grow hb5) ((hb5.block rb hrV).trans (G HR)) (by omega) hwo (by have:=(G HCH); have:=(G HBL).size; omega) hrV (G HOUS) (by have:=G HOL; have:=G HVL; omega) (G HIO) (by have:=G HOL; have:=G HVL; omega));clear HXA HXO HCO HOUS;go_region_held3 (fun V=>V.cell? ⟨ib,7,none⟩=some (.slice xop outs.length xoc)∧V.cell? ⟨f.q,5,none⟩=some (.slice f.op f.x.o.length f.oc)) ((first | exact G HSK _ rfl rfl | exact G HSK _ ((G HB5).block ib hibl) ((G HB5).block f.q hql) | exact G HSK _ (G HI6).1 (G HI6).2)) ((first | (go_at_call 90; refine(G HWD).mono ?_; rintro e w5 ⟨wv,rfl,hwo,hb5⟩; obtain⟨wp,wc,rfl⟩:=Zm hwo; have HB5:=J (show Below V2.heap.size V2 w5 from⟨hb5.os,hb5.tape,hb5.output,hb5.size,hb5.block⟩); have HE5:=J (G HEN w5 (G HB5) wp wc (by rw [G HVL]; exact hwo)); rw [G HVL] at HE5; have HWO:=J (show w5.ownsRow V2.heap.size 62 1 (.slice wp outs.length wc) outs.length (uC (Xf f.x.v outs)) from hwo); clear hwo hb5) | (go_at_call 89; refine(G HE5).mono ?_; rintro e w6 ⟨⟨v6,rfl⟩,hR6,hS6,hB6,hK6⟩; have HI6:=J (show w6.heap[ib]?=V2.heap[ib]?∧w6.heap[f.q]?=V2.heap[f.q]? from⟨(hK6 ib (by have:=(G HB5).size; omega) hibrb (Or.inr hibc)).trans ((G HB5).block ib hibl),(hK6 f.q (by have:=(G HB5).size; omega) hqrb (Or.inr hqc)).trans ((G HB5).block f.q hql)⟩); have HR6:=J hR6; have HS6:=J hS6; have HB6:=J hB6; clear hR6 hS6 hB6 hK6)))
 all_goals
  go_wp2;go_returns;exact⟨⟨_,rfl⟩,_,G HR6,G HS6,(G HBL).trans (((G HB5).mono (by omega)).trans (G HB6))⟩
structure PgI (w0:World)(P:Zl)(fb fo:Nat)(A:Nat→Array Value):Prop where
 fs:∀ i,i<P.funcs.length→w0.rangeAt fb (fo+i*5) (A i).toList
 lt:fb<w0.heap.size
 each:∀ k,k<P.funcs.length→Oz w0 (A k) (P.funcs.getD k Ze)
theorem Ov {w:World}{B:Nat}{p:Option Addr}{c:Nat}{ws:List Int}(h:w.ownsRow B 62 1 (.slice p ws.length c) ws.length (uC ws))(hl:ws.length<4611686018427387904):Lv w (.slice p ws.length c) ws:=by
 have hc:ws.length≤c:=by
  rcases h.2 with⟨e,hn⟩ | ⟨g,cap,cur,e,-,-,hnc,-⟩
  ·
   omega
  ·
   injection e with e1 e2 e3;omega
 refine⟨p,c,rfl,hc,hl,fun h0=>?_⟩;obtain⟨g,e,-,-⟩:=Nz h (k:=0) h0;subst e;refine⟨g,0,rfl,fun i hi=>?_⟩;obtain⟨g',e,-,hcc⟩:=Nz h (k:=i) hi;injection e with e;injection e with e;subst e;rw [Nat.zero_add,hcc];simp [uC,List.getD,hi]
theorem Uo:∀{l:List (Int×Int)},(∀ k,k<l.length→(l.getD k (0,0)).1≤8)→Xe l≤8*l.length
 | [],_=>Nat.le_refl _
 | a :: l,h=>by
  have h0:=h 0 (by simp);have ih:=Uo (l:=l) fun k hk=>h (k+1) (by simpa using hk);show(if a.1=0 then 1 else a.1.toNat)+Xe l≤_;have h0':a.1≤8:=h0;simp only [List.length_cons];split <;> omega
set_option maxHeartbeats 4000000 in
set_option maxRecDepth 100000 in
theorem Zgu {P:Zl}{w0 w:World}{rb b fb fo fc:Nat}{A:Nat→Array Value}{f:Mh}{R:List Mh}{frv tv scv vv:Value}{tr:List (Int×List Int)}{es:List Value}{kind steps:Int}(hPg:PgI w0 P fb fo A)(hG:Yp P)(hW:Lp P f.x)(hS:Xc w0 w rb b (f :: R) frv tv tr es)(hrow:Gv w rb (.slice (some ⟨fb,fo,none⟩) P.funcs.length fc) scv frv kind vv tv steps){d a bb n F:Int}{args:List (Int×Int)}{outs:List Int}(hi:Zo f.x=⟨12,d,a,bb,n,F,args,outs⟩)(hst:R.length≤50000) :
 Calls Tryz.prog 65 #[.pointer (some ⟨rb,0,none⟩),.pointer (some ⟨f.q,0,none⟩)] w fun e w'=>(∃ v,e=.returned v)∧∃ f' frv',f'.x=Jj (P.funcs.getD F.toNat Ze) (Zv f.x args) outs∧Gv w' rb (.slice (some ⟨fb,fo,none⟩) P.funcs.length fc) scv frv' kind vv tv steps∧Xc w0 w' rb b (f' :: { f with x:=Zp f.x } :: R) frv' tv tr es∧Below b w w':=by
 obtain⟨fp,fcp,rfl⟩:=Zm hS.fr;have hwc:=Zbe hG hW (by rw [hi]);rw [hi] at hwc;dsimp only at hwc;obtain⟨hcf,-,-,hca,hcl,hcA,hF0,hF1⟩:=hwc;obtain⟨k,rfl⟩:=Int.eq_ofNat_of_zero_le hF0;rw [Int.toNat_natCast] at hcf hca ⊢;have hkN:k<P.funcs.length:=by omega
 have HH:=J (hG.fnH hcf);have HFN:=J (hPg.each k hkN);have HCA:=J hcA;have HWL:=J (show(Zv f.x args).length=Xe (P.funcs.getD k Ze).params from(Mx f.x args).trans (Of hca));have HWS:=J (Og hW.ok args);have HSM:=J (hW.small hG);have HOK:=J hW.ok;clear hcf hca hcA hF0 hF1;have HFE:=J (Gs hG hW hS ⟨12,d,a,bb,n,(k:Int),args,outs⟩ hi);have hrlo:=(hS.stk f List.mem_cons_self).2;have hbrb:=hS.rbb;have HW:=J hW;have HS:=J hS;have HROW:=J hrow;have hrl:=Zd hrow;have HI:=J hi;clear hS hrow hi hW;go_enter Tryz.func65,Tryz.ntmps65
 go_wp2_with fail
 refine(G HFE).mono ?_;rintro e w1 ⟨xap,xac,xop,xoc,rfl,hxa,hxo,hF1,hO1⟩;have hBX:=My w1 #[.int .i64 0,.int .i64 0,.int .i64 0,.int .i64 0,.int .u64 0,.int .i64 0,.slice none 0 0,.slice none 0 0] #[.int .i64 12,.int .i64 d,.int .i64 a,.int .i64 bb,.int .u64 n,.int .i64 (k:Int),.slice xap args.length xac,.slice xop outs.length xoc] 65;have HR2:=J hBX.2.2;have HX2:=J hBX.1;have HB2:=J hBX.2.1;have HS2:=J (((G HS).top hF1 hO1).grow hBX.2.1);have HR:=J (show Gv ((w1.alloc (.cells #[.int .i64 0,.int .i64 0,.int .i64 0,.int .i64 0,.int .u64 0,.int .i64 0,.slice none 0 0,.slice none 0 0] 65)).setRow w1.heap.size #[.int .i64 12,.int .i64 d,.int .i64 a,.int .i64 bb,.int .u64 n,.int .i64 (k:Int),.slice xap args.length xac,.slice xop outs.length xoc]) rb (.slice (some ⟨fb,fo,none⟩) P.funcs.length fc) scv (.slice fp (f :: R).length fcp) kind vv tv steps from(hBX.2.1.block rb (Nat.lt_of_lt_of_le hrl hO1.size)).trans ((hO1.oth rb hrl (Or.inl hrlo)).trans (G HROW)));have HBL:=J (show Below b w ((w1.alloc (.cells #[.int .i64 0,.int .i64 0,.int .i64 0,.int .i64 0,.int .u64 0,.int .i64 0,.slice none 0 0,.slice none 0 0] 65)).setRow w1.heap.size #[.int .i64 12,.int .i64 d,.int .i64 a,.int .i64 bb,.int .u64 n,.int .i64 (k:Int),.slice xap args.length xac,.slice xop outs.length xoc]) from Below.trans (b:=w1) ⟨hO1.os,hO1.tape,hO1.output,hO1.size,fun k hk=>hO1.oth k (by omega) (Or.inl (by omega))⟩ (hBX.2.1.mono (by have:=hO1.size; omega)))
 have HIBW:=J hO1.size;have HXA:=J hxa;have HXO:=J hxo;clear hBX hxa hxo hF1 hO1 HS HROW HFE;dsimp only;go_upto_region 1 with(refine wpList_store_row rfl 65 _ _ rfl w1.heap.size #[.int .i64 12,.int .i64 d,.int .i64 a,.int .i64 bb,.int .u64 n,.int .i64 (k:Int),.slice xap args.length xac,.slice xop outs.length xoc] rfl rfl 65 _ (G HR2) (Tryz.infInsI.trans rfl) rfl (by simp [Value.oneCell']) ?_)
 clear HR2;generalize hX:World.setRow (World.alloc w1 _) _ _=V2 at HX2 HB2 HS2 HR HBL ⊢;clear hX;generalize hib:w1.heap.size=ib at HX2 HB2 HIBW ⊢;clear hib;have o0:=cR (G HX2) 0;have hF2:Gn w0 V2 (Zp f.x) f.q f.lo f.hi f.lg f.bp f.sp f.op f.bc f.sc f.oc f.gs f.B:=((G HS2).stk _ List.mem_cons_self).1;have HF2:=J hF2;clear hF2;go_upto_region 12 with fail
 clear o0;have HSK:=J (fun(V:World) (h:V.heap[ib]?=V2.heap[ib]?)=>show V.cell? ⟨ib,5,none⟩=some (.int .i64 (k:Int))∧V.cell? ⟨ib,6,none⟩=some (.slice xap args.length xac)∧V.cell? ⟨ib,7,none⟩=some (.slice xop outs.length xoc) from⟨(cR (h.trans (G HX2)) 5),(cR (h.trans (G HX2)) 6),(cR (h.trans (G HX2)) 7)⟩);have HWD:=J (Zaz w0 (Zp f.x) f.q f.lo f.hi f.lg f.bp f.sp f.op f.bc f.sc f.oc f.gs f.B args xap xac V2.drew (Yk (G HF2) (Below.refl _ _).drew) ⟨(G HOK).v,(G HOK).s⟩ (G HS2).low.drew (G HXA) (by omega) (fun k hk=>⟨(G HCA k hk).w0,(G HCA k hk).w8,(G HCA k hk).f0,(G HCA k hk).v,(G HCA k hk).s⟩) (G HSM));rw [show Zv (Zp f.x) args=Zv f.x args from rfl] at HWD;have hwl8:(Zv f.x args).length≤100000:=by
  have h1:=G HWL;have h2:=Uo (l:=(P.funcs.getD k Ze).params) (fun j hj=>((G HH).pw j hj).2.1);have h3:=(G HH).pl;omega
 have hibl:=Zd (G HX2);have hibrb:ib≠rb:=fun e=>Zs (G HX2) (G HR) (by decide) e;have HEN:=J (fun(w5:World) (hb5:Below V2.heap.size V2 w5) (wp:Option Addr) (wc:Nat) (hwo:w5.ownsRow V2.heap.size 62 1 (.slice wp (Zv f.x args).length wc) (Zv f.x args).length (uC (Zv f.x args)))=>Zbh w0 w5 rb b ({ f with x:=Zp f.x } :: R) fp fcp tv vv scv tr es kind steps ((G HS2).grow hb5) (P.funcs.getD k Ze) k fb fo fc P.funcs.length A ((hb5.block rb (Zd (G HR))).trans (G HR)) hkN hPg.fs hPg.lt (G HFN) (G HH) (Zv f.x args) outs wp xop wc xoc (Ov hwo (by omega)) (G HXO) (G HWL) (G HWS) (by simp; omega));clear HXA HXO HFN HH HWL HWS HCA HOK HSM hPg;go_region_held3 (fun V=>V.cell? ⟨ib,5,none⟩=some (.int .i64 (k:Int))∧V.cell? ⟨ib,6,none⟩=some (.slice xap args.length xac)∧V.cell? ⟨ib,7,none⟩=some (.slice xop outs.length xoc)) ((first | exact G HSK _ rfl | exact G HSK _ ((G HB5).block ib hibl) | exact G HSK _ (G HI6))) ((first | (go_at_call 85; refine(G HWD).mono ?_; rintro e w5 ⟨wv,rfl,hwo,hb5⟩; obtain⟨wp,wc,rfl⟩:=Zm hwo; have HB5:=J (show Below V2.heap.size V2 w5 from⟨hb5.os,hb5.tape,hb5.output,hb5.size,hb5.block⟩); have HE5:=J (G HEN w5 (G HB5) wp wc hwo); clear hwo hb5) | (go_at_call 42; refine(G HE5).mono ?_; rintro e w6 ⟨⟨v6,rfl⟩,f6,fp6,fc6,hx6,-,-,-,hR6,hS6,hB6,hK6⟩; have HI6:=J (show w6.heap[ib]?=V2.heap[ib]? from(hK6 ib _ _ (((G HB5).block ib hibl).trans (G HX2)) (by decide) hibrb).trans ((G HB5).block ib hibl)); have HX6:=J hx6; have HR6:=J hR6; have HS6:=J hS6; have HB6:=J hB6; clear hx6 hR6 hS6 hB6 hK6)))
 all_goals
  go_wp2;go_returns;exact⟨⟨_,rfl⟩,f6,_,G HX6,G HR6,G HS6,(G HBL).trans (((G HB5).mono (by have:=Zd (G HR); omega)).trans (G HB6))⟩
set_option maxHeartbeats 4000000 in
set_option maxRecDepth 100000 in
theorem Zgy {P:Zl}{w0 w:World}{rb b fb fo fc:Nat}{A:Nat→Array Value}{f:Mh}{R:List Mh}{frv tv scv vv:Value}{tr:List (Int×List Int)}{es:List Value}{kind steps:Int}(hPg:PgI w0 P fb fo A)(hG:Yp P)(hW:Lp P f.x)(hS:Xc w0 w rb b (f :: R) frv tv tr es)(hrow:Gv w rb (.slice (some ⟨fb,fo,none⟩) P.funcs.length fc) scv frv kind vv tv steps){d a bb n F:Int}{args:List (Int×Int)}{outs:List Int}(hi:Zo f.x=⟨17,d,a,bb,n,F,args,outs⟩)(hst:R.length≤50000) :
 Calls Tryz.prog 65 #[.pointer (some ⟨rb,0,none⟩),.pointer (some ⟨f.q,0,none⟩)] w fun e w'=>(∃ v,e=.returned v)∧∃ f' frv',f'.x=Jj (P.funcs.getD F.toNat Ze) (Zv f.x args) f.x.o∧Gv w' rb (.slice (some ⟨fb,fo,none⟩) P.funcs.length fc) scv frv' kind vv tv steps∧Xc w0 w' rb b (f' :: R) frv' tv tr es∧Below b w w':=by
 obtain⟨g,gc,rfl⟩:=Ob hS.fr;have hwc:=Zbg hG hW (by rw [hi]);rw [hi] at hwc;dsimp only at hwc;obtain⟨hcf,-,hca,hcl,hcA,hF0,hF1⟩:=hwc;obtain⟨k,rfl⟩:=Int.eq_ofNat_of_zero_le hF0;rw [Int.toNat_natCast] at hcf hca ⊢;have hkN:k<P.funcs.length:=by omega
 have HH:=J (hG.fnH hcf);have HFN:=J (hPg.each k hkN);have HCA:=J hcA;have HWL:=J (show(Zv f.x args).length=Xe (P.funcs.getD k Ze).params from(Mx f.x args).trans (Of hca));have HWS:=J (Og hW.ok args);have HSM:=J (hW.small hG);have HOK:=J hW.ok;have HOUS:=J (hS.stk f List.mem_cons_self).1.ous;have hgc:=Zbi (xs:=Nd (f :: R)) hS.fr;have hgcN:R.length+1≤gc:=hgc;clear hcf hca hcA hF0 hF1 hgc;have HFE:=J (Gs hG hW hS ⟨17,d,a,bb,n,(k:Int),args,outs⟩ hi);have hrlo:=(hS.stk f List.mem_cons_self).2;have hbrb:=hS.rbb;have HW:=J hW;have HS:=J hS;have HROW:=J hrow;have hrl:=Zd hrow;have HI:=J hi;clear hS hrow hi hW;go_enter Tryz.func65,Tryz.ntmps65
 go_wp2_with fail
 refine(G HFE).mono ?_;rintro e w1 ⟨xap,xac,xop,xoc,rfl,hxa,hxo,hF1,hO1⟩;have hBX:=My w1 #[.int .i64 0,.int .i64 0,.int .i64 0,.int .i64 0,.int .u64 0,.int .i64 0,.slice none 0 0,.slice none 0 0] #[.int .i64 17,.int .i64 d,.int .i64 a,.int .i64 bb,.int .u64 n,.int .i64 (k:Int),.slice xap args.length xac,.slice xop outs.length xoc] 65;have HR2:=J hBX.2.2;have HX2:=J hBX.1;have HB2:=J hBX.2.1;have HS2:=J (((G HS).top hF1 hO1).grow hBX.2.1);have HR:=J (show Gv ((w1.alloc (.cells #[.int .i64 0,.int .i64 0,.int .i64 0,.int .i64 0,.int .u64 0,.int .i64 0,.slice none 0 0,.slice none 0 0] 65)).setRow w1.heap.size #[.int .i64 17,.int .i64 d,.int .i64 a,.int .i64 bb,.int .u64 n,.int .i64 (k:Int),.slice xap args.length xac,.slice xop outs.length xoc]) rb (.slice (some ⟨fb,fo,none⟩) P.funcs.length fc) scv (.slice (some ⟨g,0,none⟩) (R.length+1) gc) kind vv tv steps from(hBX.2.1.block rb (Nat.lt_of_lt_of_le hrl hO1.size)).trans ((hO1.oth rb hrl (Or.inl hrlo)).trans (G HROW)));have HBL:=J (show Below b w ((w1.alloc (.cells #[.int .i64 0,.int .i64 0,.int .i64 0,.int .i64 0,.int .u64 0,.int .i64 0,.slice none 0 0,.slice none 0 0] 65)).setRow w1.heap.size #[.int .i64 17,.int .i64 d,.int .i64 a,.int .i64 bb,.int .u64 n,.int .i64 (k:Int),.slice xap args.length xac,.slice xop outs.length xoc]) from Below.trans (b:=w1) ⟨hO1.os,hO1.tape,hO1.output,hO1.size,fun k hk=>hO1.oth k (by omega) (Or.inl (by omega))⟩ (hBX.2.1.mono (by have:=hO1.size; omega)))
 have HIBW:=J hO1.size;have HXA:=J hxa;have HXO:=J hxo;clear hBX hxa hxo hF1 hO1 HS HROW HFE;dsimp only;go_upto_region 1 with(refine wpList_store_row rfl 65 _ _ rfl w1.heap.size #[.int .i64 17,.int .i64 d,.int .i64 a,.int .i64 bb,.int .u64 n,.int .i64 (k:Int),.slice xap args.length xac,.slice xop outs.length xoc] rfl rfl 65 _ (G HR2) (Tryz.infInsI.trans rfl) rfl (by simp [Value.oneCell']) ?_)
 clear HR2;generalize hX:World.setRow (World.alloc w1 _) _ _=V2 at HX2 HB2 HS2 HR HBL ⊢;clear hX;generalize hib:w1.heap.size=ib at HX2 HB2 HIBW ⊢;clear hib;have o0:=cR (G HX2) 0;have hF2:Gn w0 V2 (Zp f.x) f.q f.lo f.hi f.lg f.bp f.sp f.op f.bc f.sc f.oc f.gs f.B:=((G HS2).stk _ List.mem_cons_self).1;have HF2:=J hF2;clear hF2;go_upto_region 22 with fail
 clear o0;have HD:=J (Zec rb (.slice (some ⟨fb,fo,none⟩) P.funcs.length fc) scv vv tv kind steps g R.length gc V2 (G HR) hgcN (by omega));go_wp2_with fail
 refine(G HD).mono ?_;rintro e V3 ⟨⟨v3,rfl⟩,hO3,hR3⟩;have hibrb:ib≠rb:=fun e=>Zs (G HX2) (G HR) (by decide) e;have hF3:Gn w0 V3 (Zp f.x) f.q f.lo f.hi f.lg f.bp f.sp f.op f.bc f.sc f.oc f.gs f.B:=Mu (G HF2) (fun q h1 _=>hO3.oth q (by omega)) (Nat.le_of_eq hO3.size.symm);have HX3:=J ((hO3.oth ib hibrb).trans (G HX2));have HF3:=J hF3;have HR3:=J hR3;have HS3:=J (((G HS2).drop (p:=some ⟨g,0,none⟩) (c:=gc) rfl).own ⟨_,G HR⟩ hO3);have HB3:=J ((G HBL).trans (Mn hO3 hbrb));clear hO3 hR3 hF3 HD HX2 HF2 HS2;have HSK:=J (fun(V:World) (h:V.heap[ib]?=V3.heap[ib]?) (h':V.heap[f.q]?=V3.heap[f.q]?)=>show(fun V=>V.cell? ⟨ib,5,none⟩=some (.int .i64 (k:Int))∧V.cell? ⟨ib,6,none⟩=some (.slice xap args.length xac)∧V.cell? ⟨f.q,5,none⟩=some (.slice f.op f.x.o.length f.oc)) V from⟨(cR (h.trans (G HX3)) 5),(cR (h.trans (G HX3)) 6),(cR (h'.trans (G HF3).row) 5)⟩);have HWD:=J (Zaz w0 (Zp f.x) f.q f.lo f.hi f.lg f.bp f.sp f.op f.bc f.sc f.oc f.gs f.B args xap xac V3.drew (Yk (G HF3) (Below.refl _ _).drew) ⟨(G HOK).v,(G HOK).s⟩ (G HS3).low.drew (G HXA) (by omega) (fun k hk=>⟨(G HCA k hk).w0,(G HCA k hk).w8,(G HCA k hk).f0,(G HCA k hk).v,(G HCA k hk).s⟩) (G HSM));rw [show Zv (Zp f.x) args=Zv f.x args from rfl] at HWD;have hwl8:(Zv f.x args).length≤100000:=by
  have h1:=G HWL;have h2:=Uo (l:=(P.funcs.getD k Ze).params) (fun j hj=>((G HH).pw j hj).2.1);have h3:=(G HH).pl;omega
 have hibl:=Zd (G HX3);have hql:=Zd (G HF3).row;have hqrb:f.q≠rb:=by have:=(G HF3).ql; omega
 have hrV:=Zd (G HR3);have HEN:=J (fun(w5:World) (hb5:Below V3.heap.size V3 w5) (wp:Option Addr) (wc:Nat) (hwo:w5.ownsRow V3.heap.size 62 1 (.slice wp (Zv f.x args).length wc) (Zv f.x args).length (uC (Zv f.x args)))=>Zbh w0 w5 rb b R (some ⟨g,0,none⟩) gc tv vv scv tr es kind steps ((G HS3).grow hb5) (P.funcs.getD k Ze) k fb fo fc P.funcs.length A ((hb5.block rb hrV).trans (G HR3)) hkN hPg.fs hPg.lt (G HFN) (G HH) (Zv f.x args) f.x.o wp f.op wc f.oc (Ov hwo (by omega)) (G HOUS) (G HWL) (G HWS) (by omega));clear HXA HXO HFN HH HWL HWS HCA HOK HSM hPg HOUS;go_upto_region 23 with fail
 go_region_held3 (fun V=>V.cell? ⟨ib,5,none⟩=some (.int .i64 (k:Int))∧V.cell? ⟨ib,6,none⟩=some (.slice xap args.length xac)∧V.cell? ⟨f.q,5,none⟩=some (.slice f.op f.x.o.length f.oc)) ((first | exact G HSK _ rfl rfl | exact G HSK _ ((G HB5).block ib hibl) ((G HB5).block f.q hql) | exact G HSK _ (G HI6).1 (G HI6).2)) ((first | (go_at_call 85; refine(G HWD).mono ?_; rintro e w5 ⟨wv,rfl,hwo,hb5⟩; obtain⟨wp,wc,rfl⟩:=Zm hwo; have HB5:=J (show Below V3.heap.size V3 w5 from⟨hb5.os,hb5.tape,hb5.output,hb5.size,hb5.block⟩); have HE5:=J (G HEN w5 (G HB5) wp wc hwo); clear hwo hb5) | (go_at_call 42; refine(G HE5).mono ?_; rintro e w6 ⟨⟨v6,rfl⟩,f6,fp6,fc6,hx6,-,-,-,hR6,hS6,hB6,hK6⟩; have HI6:=J (show w6.heap[ib]?=V3.heap[ib]?∧w6.heap[f.q]?=V3.heap[f.q]? from⟨(hK6 ib _ _ (((G HB5).block ib hibl).trans (G HX3)) (by decide) hibrb).trans ((G HB5).block ib hibl),(hK6 f.q _ _ (((G HB5).block f.q hql).trans (G HF3).row) (by decide) hqrb).trans ((G HB5).block f.q hql)⟩); have HX6:=J hx6; have HR6:=J hR6; have HS6:=J hS6; have HB6:=J hB6; clear hx6 hR6 hS6 hB6 hK6)))
 all_goals
  go_wp2;go_returns;exact⟨⟨_,rfl⟩,f6,_,G HX6,G HR6,G HS6,(G HB3).trans (((G HB5).mono (by omega)).trans (G HB6))⟩
def Zgz (w':World)(rb b:Nat)(fv:Value)(steps kind:Int)(l:List Int)(tr:List (Int×List Int)):Prop :=
 ∃ scv frv tp tc es vp vc,Gv w' rb fv scv frv kind (.slice vp l.length vc) (.slice tp tr.length tc) steps∧w'.ownsRow b 62 1 (.slice vp l.length vc) l.length (uC l)∧TrI w' b (fun g=>g≠rb) (.slice tp tr.length tc) tr es
def Zns (w0 w':World)(rb b:Nat)(fv:Value)(steps:Int):Ud→Prop
 | .inl (st',sc',tr')=>∃(st:List Mh) (sp:Option Addr) (sc:Nat) (frv tv:Value) (es:List Value),st.map (·.x)=st'∧Gv w' rb fv (.slice sp sc'.length sc) frv 0 (.slice none 0 0) tv steps∧Lv w0 (.slice sp sc'.length sc) sc'∧Xc w0 w' rb b st frv tv tr' es
 | .inr (.inl (l,_,tr'))=>Zgz w' rb b fv steps 1 l tr'
 | .inr (.inr (c,_,tr'))=>Zgz w' rb b fv steps 2 [c] tr'
theorem Zpg {n:Int}(h:n=1∨n=2∨n=4∨n=8):isW n=true:=by
 rcases h with rfl | rfl | rfl | rfl <;> rfl
theorem Xc.trE {w0 V:World}{rb b:Nat}{st:List Mh}{frv tv:Value}{tr:List (Int×List Int)}{es:List Value}(h:Xc w0 V rb b st frv tv tr es):TrI V b (fun g=>g≠rb) tv tr es:=h.tr.keep (fun _ _ _ _ _ _ _=>rfl) (fun _ _ _ hN=>hN.2)
theorem Znt {P:Zl}{w0 w:World}{rb b fb fo fc:Nat}{A:Nat→Array Value}{f:Mh}{R:List Mh}{frv tv:Value}{tr:List (Int×List Int)}{es:List Value}{steps:Int}{sp:Option Addr}{scc:Nat}{sc:List Int}(hG:Yp P)(hPg:PgI w0 P fb fo A)(hwf:WfS P ((f :: R).map (·.x)))(hS:Xc w0 w rb b (f :: R) frv tv tr es)(hrow:Gv w rb (.slice (some ⟨fb,fo,none⟩) P.funcs.length fc) (.slice sp sc.length scc) frv 0 (.slice none 0 0) tv steps)(hsc:Lv w0 (.slice sp sc.length scc) sc)(hst:R.length≤50000)(htl:tr.length≤100000) :
 Calls Tryz.prog 65 #[.pointer (some ⟨rb,0,none⟩),.pointer (some ⟨f.q,0,none⟩)] w fun e w'=>(∃ v,e=.returned v)∧Zns w0 w' rb b (.slice (some ⟨fb,fo,none⟩) P.funcs.length fc) steps (Ot P f.x (R.map (·.x)) sc tr)∧Below b w w':=by
 have hW:Lp P f.x:=WfS.top hwf;have hI:=hW.insG hG;cases hi:Zo f.x with
 | mk op d a bb n F args outs =>
 rw [hi] at hI;have g0:=hI.op0;have g1:=hI.op1;have hfl:=hI.fld;have hn0:=hI.n0;simp only at g0 g1 hn0;have hv:=hW.v;have hs:=hW.slen;have loc:∀(X:Xk),Ld (Zp f.x) ⟨op,d,a,bb,n,F,args,outs⟩=X→op≠12→op≠13→op<16→Ot P f.x (R.map (·.x)) sc tr=.go (({ f with x:=X } :: R).map (·.x)) sc tr:=fun X hX h12 h13 h16=>by
  unfold Ot;rw [hi];simp only;rw [if_neg h12,if_neg h13,if_neg (by omega),if_neg (by omega),if_neg (by omega),hX];rfl
 have fin:∀{w':World} (X:Xk),Gv w' rb (.slice (some ⟨fb,fo,none⟩) P.funcs.length fc) (.slice sp sc.length scc) frv 0 (.slice none 0 0) tv steps→Xc w0 w' rb b ({ f with x:=X } :: R) frv tv tr es→Zns w0 w' rb b (.slice (some ⟨fb,fo,none⟩) P.funcs.length fc) steps (.go (({ f with x:=X } :: R).map (·.x)) sc tr):=fun X h1 h2=>⟨_,sp,scc,frv,tv,es,rfl,h1,hsc,h2⟩;by_cases h1:op=1
 ·
  subst h1;have hd:=Uc hfl (Or.inl (by simp only; decide));simp only at hd;refine(Zeg hG hW hS hrow hi hd.1 (by omega)).mono ?_;rintro e w' ⟨hv',hR',hS',hB'⟩;refine⟨hv',?_,hB'⟩;rw [loc { Zp f.x with v:=f.x.v.set d.toNat n } (by unfold Ld; simp [Zp]) (by decide) (by decide) (by decide)];exact fin _ hR' hS'
 by_cases h2:op=2
 ·
  subst h2;have hd:=Uc hfl (Or.inl (by simp only; decide));have ha:=Zfk hfl (by simp only; decide);simp only at hd ha;refine(Zgs hG hW hS hrow hi hd.1 (by omega) ha.1 (by omega) rfl).mono ?_;rintro e w' ⟨hv',hR',hS',hB'⟩;refine⟨hv',?_,hB'⟩;rw [loc { Zp f.x with v:=f.x.v.set d.toNat (f.x.v.getD a.toNat 0) } (by unfold Ld; simp [Zp]) (by decide) (by decide) (by decide)];exact fin _ hR' hS'
 by_cases h10:op=10
 ·
  subst h10;have hd:=Uc hfl (Or.inl (by simp only; decide));have ha:=Un hfl (by simp only; decide);simp only at hd ha;obtain⟨a0,a1,aw,b0,b1⟩:=ha;have hsl:=hW.slot (k:=a.toNat) (by omega);have hsm:=hW.small hG (f.x.s.getD a.toNat []) (by rw [Yu _ _ _ (by omega)]; exact List.getElem_mem _);refine(Zgr hG hW hS hrow hi hd.1 (by omega) a0 (by omega) (Zpg aw) b0 (by omega) hsm hn0).mono ?_;rintro e w' ⟨hv',hR',hS',hB'⟩;refine⟨hv',?_,hB'⟩;rw [loc { Zp f.x with v:=f.x.v.set d.toNat (Ns (f.x.s.getD a.toNat []) bb.toNat n.toNat) } (by unfold Ld; simp [Zp]) (by decide) (by decide) (by decide)];exact fin _ hR' hS'
 by_cases h11:op=11
 ·
  subst h11;have hd:=Uc hfl (Or.inl (by simp only; decide));have ha:=Un hfl (by simp only; decide);simp only at hd ha;obtain⟨a0,a1,aw,b0,b1⟩:=ha;have hsl:=hW.slot (k:=a.toNat) (by omega);have hsm:=hW.small hG (f.x.s.getD a.toNat []) (by rw [Yu _ _ _ (by omega)]; exact List.getElem_mem _);refine(Zef hG hW hS hrow hi hd.1 (by omega) a0 (by omega) (Zpg aw) b0 (by omega) hsm hn0).mono ?_;rintro e w' ⟨hv',hR',hS',hB'⟩;refine⟨hv',?_,hB'⟩;rw [loc { Zp f.x with s:=f.x.s.set a.toNat (Sd (f.x.s.getD a.toNat []) bb.toNat n.toNat (f.x.v.getD d.toNat 0)) } (by unfold Ld; simp [Zp]) (by decide) (by decide) (by decide)];exact fin _ hR' hS'
 by_cases h14:op=14
 ·
  subst h14;refine(Zgp hG hW hS hrow hi).mono ?_;rintro e w' ⟨hv',hR',hS',hB'⟩;refine⟨hv',?_,hB'⟩;rw [loc { f.x with b:=a,i:=0 } (by unfold Ld; simp [Zp]) (by decide) (by decide) (by decide)];exact fin _ hR' hS'
 by_cases h15:op=15
 ·
  subst h15;have hd:=Uc hfl (Or.inr rfl);simp only at hd;refine(Zgq hG hW hS hrow hi rfl hd.1 (by omega)).mono ?_;rintro e w' ⟨hv',hR',hS',hB'⟩;refine⟨hv',?_,hB'⟩;rw [loc { f.x with b:=if f.x.v.getD d.toNat 0=0 then bb else a,i:=0 } (by unfold Ld; simp [Zp]) (by decide) (by decide) (by decide)];exact fin _ hR' hS'
 by_cases h12:op=12
 ·
  subst h12;refine(Zgu hPg hG hW hS hrow hi hst).mono ?_;rintro e w' ⟨hv',f',frv',hx',hR',hS',hB'⟩;refine⟨hv',?_,hB'⟩;unfold Ot;rw [hi,if_pos rfl];exact⟨_,sp,scc,frv',tv,es,by simp only [List.map_cons]; rw [hx']; rfl,hR',hsc,hS'⟩
 by_cases h13:op=13
 ·
  subst h13;refine(Zji hG hW hS hrow hsc hi htl).mono ?_;rintro e w' ⟨hv',tp',tc',sp',sc',wv,hR',hL',hS',hB'⟩;refine⟨hv',?_,hB'⟩;rw [show Ot P f.x (R.map (·.x)) sc tr=.go ({ Zp f.x with v:=Xp f.x.v outs (Yt sc outs.length) } :: R.map (·.x)) (sc.drop outs.length) (tr++[(F,Zv f.x args)]) by unfold Ot; simp [hi]];exact⟨_,sp',sc',frv,_,_,rfl,hR',hL',hS'⟩
 by_cases h16:op=16
 ·
  subst h16;cases R with
  | nil =>
   refine(Zgw hG hW hS hrow hi).mono ?_;rintro e w' ⟨hv',frv',vp,vc,hR',hS',hO',hB'⟩;refine⟨hv',?_,hB'⟩;have hl:(Xf f.x.v outs).length=outs.length:=by simp [Xf]
   obtain⟨tp,tc,rfl⟩:=Zm hS'.tr.row;rw [show Ot P f.x (([]:List Mh).map (·.x)) sc tr=.done (Xf f.x.v outs) sc tr by unfold Ot; simp [hi]];exact⟨_,frv',tp,tc,es,vp,vc,by rw [hl]; exact hR',by rw [hl]; exact hO',hS'.trE⟩
  | cons c R =>
   have hr:=Zfl hfl rfl;simp only at hr;have hwo:(f.x.o.length:Int)=f.x.fn.results:=hwf.2.1;refine(Zgx hG hW hS hrow hi (by omega) hwf.2.2.1 (by simp at hst; omega)).mono ?_;rintro e w' ⟨hv',frv',hR',hS',hB'⟩;refine⟨hv',?_,hB'⟩;rw [show Ot P f.x ((c :: R).map (·.x)) sc tr=.go ({ c.x with v:=Xp c.x.v f.x.o (Xf f.x.v outs) } :: R.map (·.x)) sc tr by unfold Ot; simp [hi]];exact⟨_,sp,scc,frv',tv,es,rfl,hR',hsc,hS'⟩
 by_cases h17:op=17
 ·
  subst h17;refine(Zgy hPg hG hW hS hrow hi hst).mono ?_;rintro e w' ⟨hv',f',frv',hx',hR',hS',hB'⟩;refine⟨hv',?_,hB'⟩;rw [show Ot P f.x (R.map (·.x)) sc tr=.go (Jj (P.funcs.getD F.toNat Ze) (Zv (Zp f.x) args) f.x.o :: R.map (·.x)) sc tr by unfold Ot; simp [hi,Ma]];exact⟨_,sp,scc,frv',tv,es,by simp only [List.map_cons]; rw [hx']; rfl,hR',hsc,hS'⟩
 by_cases h18:op=18
 ·
  subst h18;refine(Zgv hG hW hS hrow hi).mono ?_;rintro e w' ⟨hv',vp,vc,hR',hS',hO',hB'⟩;refine⟨hv',?_,hB'⟩;obtain⟨tp,tc,rfl⟩:=Zm hS'.tr.row;rw [show Ot P f.x (R.map (·.x)) sc tr=.trap n sc tr by unfold Ot; simp [hi]];exact⟨_,frv,tp,tc,es,vp,vc,hR',hO',hS'.trE⟩
 have hd:=Uc hfl (Or.inl (by simp only; omega));have ha:=Zfk hfl (by simp only; omega);have hb:=Zmu hfl (by simp only; omega);simp only at hd ha hb;refine(Zgt hG hW hS hrow hi (by omega) (by omega) hd.1 (by omega) ha.1 (by omega) hb.1 (by omega) rfl rfl rfl).mono ?_;rintro e w' ⟨hv',hR',hS',hB'⟩;refine⟨hv',?_,hB'⟩;rw [loc { Zp f.x with v:=f.x.v.set d.toNat (Mv op (f.x.v.getD a.toNat 0) (f.x.v.getD bb.toNat 0)) } (by unfold Ld; simp [Zp,h1,h2,h10,h11,h14,h15]) h12 h13 (by omega)];exact fin _ hR' hS'
def Ln:Zy→Int
 | .inl (_,_,_,_)=>1
 | .inr (.inl (_,_,_,_))=>2
 | .inr (.inr (_,_))=>3
def Md:Zy→List Int
 | .inl (l,_,_,_)=>l
 | .inr (.inl (c,_,_,_))=>[c]
 | .inr (.inr (_,_))=>[]
def Zz:Zy→List (Int×List Int)
 | .inl (_,_,_,tr)=>tr
 | .inr (.inl (_,_,_,tr))=>tr
 | .inr (.inr (_,tr))=>tr
def Yd (fuel:Nat):Zy→Nat
 | .inl (_,m,_,_)=>fuel-m
 | .inr (.inl (_,m,_,_))=>fuel-m
 | .inr (.inr (_,_))=>fuel
theorem Zfo {P:Zl}{x:Xk}{R st:List Xk}{sc sc':List Int}{tr tr':List (Int×List Int)}(h:Ot P x R sc tr=.go st sc' tr'):st.length≤R.length+2∧tr'.length≤tr.length+1:=by
 unfold Ot at h;split at h
 ·
  obtain⟨h1,-,h3⟩:=Ud.go_inj h; subst h1 h3; simp
 split at h
 ·
  obtain⟨h1,-,h3⟩:=Ud.go_inj h; subst h1 h3; simp
 split at h
 ·
  cases R with
  | nil=>cases h
  | cons c R=>obtain⟨h1,-,h3⟩:=Ud.go_inj h; subst h1 h3; simp
 split at h
 ·
  obtain⟨h1,-,h3⟩:=Ud.go_inj h; subst h1 h3; simp
 split at h
 ·
  cases h
 ·
  obtain⟨h1,-,h3⟩:=Ud.go_inj h; subst h1 h3; simp
def GoI (P:Zl)(w0 w':World)(rb b:Nat)(fv:Value)(fuel n:Nat)(r:Zy):Prop :=
 ∃(f:Mh) (R:List Mh) (sp:Option Addr) (scc:Nat) (sc:List Int) (frv tv:Value) (tr:List (Int×List Int)) (es:List Value),Gv w' rb fv (.slice sp sc.length scc) frv 0 (.slice none 0 0) tv n∧Lv w0 (.slice sp sc.length scc) sc∧Xc w0 w' rb b (f :: R) frv tv tr es∧WfS P ((f :: R).map (·.x))∧(∀ n ∈ sc,0≤n∧n<18446744073709551616)∧r=ev P (fuel-n) ((f :: R).map (·.x)) sc tr∧R.length≤n∧tr.length≤n
theorem Zjj {P:Zl}{w0 w':World}{rb b:Nat}{fv:Value}{fuel n:Nat}{r:Zy}{x:Xk}{R:List Xk}{sc:List Int}{tr:List (Int×List Int)}(hG:Yp P)(hwf:WfS P (x :: R))(hsc:∀ n ∈ sc,0≤n∧n<18446744073709551616)(hr:r=ev P (fuel-n) (x :: R) sc tr)(hn:n<fuel)(hR:R.length≤n)(ht:tr.length≤n)(h:Zns w0 w' rb b fv ((n:Int)+1) (Ot P x R sc tr)) :
 GoI P w0 w' rb b fv fuel (n+1) r∨((Ln r=1∨Ln r=2)∧Zgz w' rb b fv (Yd fuel r) (Ln r) (Md r) (Zz r)):=by
 have hf:fuel-n=(fuel-(n+1))+1:=by omega
 rw [hf,Ou] at hr;cases hs:Ot P x R sc tr using Ud.el with
 | go st sc' tr' =>
  rw [hs] at hr h;obtain⟨hw,hs'⟩:=Zjg hG hwf hsc tr hs;have hl:=Zfo hs;obtain⟨st,sp,scc,frv,tv,es,rfl,h1,h2,h3⟩:=h;left
  cases st with
  | nil=>exact hw.elim
  | cons f R'=>exact⟨f,R',sp,scc,sc',frv,tv,tr',es,h1,h2,h3,hw,hs',hr,by simp at hl; omega,by omega⟩
 | done l sc' tr' =>
  rw [hs] at hr h;right
  subst hr;refine⟨Or.inl rfl,?_⟩;have:(Yd fuel (Ud.run P (fuel-(n+1)) (.done l sc' tr')):Int)=(n:Int)+1:=by simp [Ud.run,Yd]; omega
  rw [this];exact h
 | trap c sc' tr' =>
  rw [hs] at hr h;right
  subst hr;refine⟨Or.inr rfl,?_⟩;have:(Yd fuel (Ud.run P (fuel-(n+1)) (.trap c sc' tr')):Int)=(n:Int)+1:=by simp [Ud.run,Yd]; omega
  rw [this];exact h
theorem Xc.set {w0 V:World}{rb b:Nat}{st:List Mh}{frv tv:Value}{tr:List (Int×List Int)}{es:List Value}(h:Xc w0 V rb b st frv tv tr es)(hrow:∃ cs,V.heap[rb]?=some (.cells cs 110 (0,0)))(j:Nat)(v:Value):Xc w0 (V.setCell ⟨rb,j,none⟩ v) rb b st frv tv tr es:=h.own hrow ⟨rfl,rfl,rfl,by simp,fun q hq=>heap_setCell_other _ _ _ _ hq⟩
theorem Ce {b rb:Nat}(w:World)(j:Nat)(v:Value)(h:b≤rb):Below b w (w.setCell ⟨rb,j,none⟩ v):=⟨rfl,rfl,rfl,by simp,fun q hq=>heap_setCell_other _ _ _ _ (by show q≠rb; omega)⟩
set_option maxHeartbeats 4000000 in
set_option maxRecDepth 100000 in
theorem Zlp (P:Zl)(w0 w:World)(rb b fb fo fc fuel:Nat)(A:Nat→Array Value)(r:Zy)(hG:Yp P)(hPg:PgI w0 P fb fo A)(hfu:fuel≤20000)(h:GoI P w0 w rb b (.slice (some ⟨fb,fo,none⟩) P.funcs.length fc) fuel 0 r)(hbrb:b≤rb) :
 Calls Tryz.prog 43 #[.pointer (some ⟨rb,0,none⟩),.int .i64 (fuel:Int)] w fun e w'=>(∃ v,e=.returned v)∧Zgz w' rb b (.slice (some ⟨fb,fo,none⟩) P.funcs.length fc) (Yd fuel r) (Ln r) (Md r) (Zz r)∧Below b w w':=by
 have HG:=J hG;have HPG:=J hPg;have H0:=J h;clear hG hPg h;go_enter Tryz.func43,Tryz.ntmps43
 go_wp2_with fail
 go_loopg [] (fuel+1) (fun k w'=>Below b w w'∧((∃ n:Nat,k=fuel-n+1∧n≤fuel∧GoI P w0 w' rb b (.slice (some ⟨fb,fo,none⟩) P.funcs.length fc) fuel n r)∨(k=0∧(Ln r=1∨Ln r=2)∧Zgz w' rb b (.slice (some ⟨fb,fo,none⟩) P.funcs.length fc) (Yd fuel r) (Ln r) (Md r) (Zz r))))
 case atStart=>exact⟨Below.refl _ _,Or.inl ⟨0,by omega,by omega,G H0⟩⟩
 case round =>
  obtain⟨hB,hrel⟩:=hrel;have HB:=J hB;clear hB;rcases hrel with⟨n,hk,hn,f,R,sp,scc,sc,frv,tv,tr,es,hrow,hL,hS,hwf,hsr,hr,hRl,htl⟩ | ⟨hk,hkd,he⟩
  ·
   have c3:=cR hrow 3;have c7:=cR hrow 7;have z7:=frozen_of_row _ _ 7 _ _ hrow;have z3:=frozen_of_row _ _ 3 _ _ hrow;have HK:=J hk;have HR:=J hr;clear hk hr;by_cases hnf:n<fuel
   ·
    have h1:Gv (wr.setCell ⟨rb,7,none⟩ (.int .i64 ((n:Int)+1))) rb (.slice (some ⟨fb,fo,none⟩) P.funcs.length fc) (.slice sp sc.length scc) frv 0 (.slice none 0 0) tv ((n:Int)+1):=heap_setCell_same _ _ 7 _ _ _ hrow;have hS1:=hS.set ⟨_,hrow⟩ 7 (.int .i64 ((n:Int)+1));have hB1:=(G HB).trans (Ce wr 7 (.int .i64 ((n:Int)+1)) hbrb);obtain⟨g,gc,rfl⟩:=Ob hS1.fr;have HROW1:=J h1;have HS1:=J hS1;have HB1:=J hB1;have HL:=J hL;have HWF:=J hwf;have HSR:=J hsr;have hnI:(n:Int)<(fuel:Int):=by omega
    clear hrow hS hL hwf hsr h1 hS1 hB1;go_upto_region 2 with fail
    clear c3 c7 z7 z3;generalize World.setCell wr _ _=U at HROW1 HS1 HB1 ⊢;obtain⟨m,hm⟩:∃ m,m=R.length:=⟨_,rfl⟩;have HM:=J hm;have c2:U.cell? ⟨rb,2,none⟩=some (.slice (some ⟨g,0,none⟩) (m+1) gc):=by rw [hm]; exact(cR (G HROW1) 2)
    have cp:U.cell? ⟨g,m,none⟩=some (.pointer (some ⟨f.q,0,none⟩)):=by
     obtain⟨g',e,-,hc⟩:=Nz (G HS1).fr (k:=m) (by rw [hm]; simp);injection e with e;injection e with e;subst e;rw [hc];have h2:Nd (f :: R)=Nd R++[.pointer (some ⟨f.q,0,none⟩)]:=by simp [Nd]
     rw [h2,hm,List.getElem?_append_right (by simp [Nd])];simp [Nd]
    have d2:U.drew.cell? ⟨rb,2,none⟩=some (.slice (some ⟨g,0,none⟩) (m+1) gc):=c2;have dp:U.drew.cell? ⟨g,m,none⟩=some (.pointer (some ⟨f.q,0,none⟩)):=cp;have hmi:IntKind.i64.wrap (m:Int)=(m:Int):=IntKind.wrap_of_boundsK (by omega) (by omega);have hm0:(0:Int)≤(m:Int):=by omega
    have hm1:(m:Int)<(m:Int)+1:=by omega
    have hml:m≤100000:=by omega
    have HST:=J (Znt (w:=U.drew) (G HG) (G HPG) (G HWF) ((G HS1).grow (Below.refl _ _).drew) (G HROW1) (G HL) (by omega) (by omega));have HRL:=J hRl;have HTL:=J htl;clear hm hRl htl;go_region_with (go_at_call 65; refine(G HST).mono ?_; rintro e w5 ⟨⟨v5,rfl⟩,hA5,hB5⟩; have HA5:=J hA5; have HB5:=J hB5; clear hA5 hB5)
    all_goals
     clear c2 cp d2 dp;go_wp2;have hn':=Zjj (G HG) (G HWF) (G HSR) (G HR) hnf (by simpa using G HRL) (G HTL) (G HA5);have hB6:Below b w w5:=(G HB1).trans ⟨(G HB5).os,(G HB5).tape,(G HB5).output,(G HB5).size,(G HB5).block⟩;rcases hn' with hgo | ⟨hkd,hend⟩
     ·
      go_roundg (fuel-(n+1)+1)
      case measure=>rw [G HK]; omega
      case rel=>exact⟨hB6,Or.inl ⟨n+1,rfl,by omega,hgo⟩⟩
     ·
      go_roundg 0
      case measure=>rw [G HK]; omega
      case rel=>exact⟨hB6,Or.inr ⟨rfl,hkd,hend⟩⟩
   ·
    have hnn:n=fuel:=by omega
    subst hnn;have h1:Gv (wr.setCell ⟨rb,3,none⟩ (.int .i64 3)) rb (.slice (some ⟨fb,fo,none⟩) P.funcs.length fc) (.slice sp sc.length scc) frv 3 (.slice none 0 0) tv (n:Int):=heap_setCell_same _ _ 3 _ _ _ hrow;have hS1:=hS.set ⟨_,hrow⟩ 3 (.int .i64 3);have hB1:=(G HB).trans (Ce wr 3 (.int .i64 3) hbrb);obtain⟨tp,tc,rfl⟩:=Zm hS.tr.row;have HROW1:=J h1;have HS1:=J hS1;have HB1:=J hB1;clear hrow hS hL hwf hsr h1 hS1 hB1 hnf;go_wp2;go_returns;refine⟨⟨_,rfl⟩,?_,G HB1⟩;have hr:=G HR;rw [Nat.sub_self] at hr;have hr2:r=.spent sc tr:=by rw [hr]; rfl
    rw [hr2];exact⟨_,frv,tp,tc,es,none,0,G HROW1,World.ownsRow_nil _ _ _ _,(G HS1).trE⟩
  ·
   have hkd0:(Ln r==0)=false:=by rcases hkd with h | h <;> rw [h] <;> rfl
   obtain⟨scv,frv,tp,tc,es,vp,vc,hrow,hv,ht⟩:=he;have c3:=cR hrow 3;have HE:=J (show Zgz wr rb b (.slice (some ⟨fb,fo,none⟩) P.funcs.length fc) (Yd fuel r) (Ln r) (Md r) (Zz r) from⟨scv,frv,tp,tc,es,vp,vc,hrow,hv,ht⟩);clear hrow hv ht hkd hk;go_wp2;go_returns;exact⟨⟨_,rfl⟩,G HE,G HB⟩
theorem Tryz.infOutP:(Tryz.prog.info? 38).map (·.size)=some 6:=by kernel_rfl
def Jx (l:List Int):Nat:=(l.map fun w=>if w=0 then 1 else w.toNat).foldr (·+·) 0
theorem Zah (l:List (Int×Int)):Jx (l.map (·.1))=Xe l:=by
 unfold Jx Xe;rw [List.map_map];rfl
theorem Zha (l m:List Int):Jx (l++m)=Jx l+Jx m:=by
 induction l with
 | nil=>simp [Jx]
 | cons a l ih =>
  show(if a=0 then 1 else a.toNat)+Jx (l++m)=(if a=0 then 1 else a.toNat)+Jx l+Jx m;omega
theorem Dt (l:List Int)(k:Nat)(h:k<l.length):Jx (l.take (k+1))=Jx (l.take k)+(if l.getD k 0=0 then 1 else (l.getD k 0).toNat):=by
 rw [List.take_add_one,List.getElem?_eq_getElem h,Zha,Yu l 0 k h];simp [Jx]
theorem Cf (l:List Int)(h:∀ k,k<l.length→0≤l.getD k 0∧l.getD k 0≤8):∀ k,k≤l.length→Jx (l.take k)≤8*k
 | 0,_=>by simp [Jx]
 | k+1,hk=>by
  have ih:=Cf l h k (by omega);have:=h k (by omega);rw [Dt l k (by omega)];split <;> omega
set_option maxHeartbeats 2000000 in
set_option maxRecDepth 100000 in
theorem Zcy (v:Value)(ps:List Int)(res:Int)(w:World)(h:Li w v ps)(hl:ps.length≤8)(hp:∀ k,k<ps.length→0≤ps.getD k 0∧ps.getD k 0≤8) :
 Calls Tryz.prog 40 #[.agg #[v,.int .i64 res]] w fun e w'=>e=.returned (.int .i64 (Jx ps:Nat))∧Below w.heap.size w w':=by
 obtain⟨q,c,rfl⟩:=h.shape;obtain⟨r0,hb0,hz0⟩:=Yj w (.cells #[.slice q ps.length c,.int .i64 res] 56 (0,0));have HL:=J (h.below hb0);have HB:=J hb0;have HP:=J hp;have HLE:=J (Cf ps hp);have c0:=cR r0 0;clear h r0 hb0 hz0 hp;go_enter Tryz.func40,Tryz.ntmps40
 go_upto_region 2 with fail
 generalize World.alloc w _=W at HL HB c0 ⊢;go_wp2_with fail
 go_loopw [9,3] (fun sk sn w'=>∃ k:Nat,sk=.int .i64 k∧sn=.int .i64 (Jx (ps.take k):Nat)∧k≤ps.length∧w'=W) (fun sk _ _=>ps.length-(intOf sk).toNat)
 case atStart=>exact⟨0,rfl,by simp [Jx],by omega,rfl⟩
 case round =>
  obtain⟨k,rfl,rfl,hk,hw⟩:=hrel;subst wr;by_cases hk2:k<ps.length
  ·
   obtain⟨p',c',e1,-,-,hcc⟩:=G HL;injection e1 with f1 f2 f3;obtain⟨sb,so,hsp,hcell⟩:=hcc (by omega);rw [← f1] at hsp;subst hsp;have d:=hcell k hk2;have hb:=G HP k hk2;have hle:=G HLE k hk;have HNX:=J (Dt ps k hk2);generalize Jx (ps.take k)=m at hle HNX ⊢;generalize ps.getD k 0=y at d hb HNX;clear f1 f2 f3 hcc hcell c0;by_cases hy:y=0
   ·
    subst hy;have HN2:=J (show Jx (ps.take (k+1))=m+1 by rw [G HNX,if_pos rfl]);clear HNX hb;go_wp2;go_roundw
    case rel=>exact⟨k+1,by go_num,by rw [G HN2]; go_num,by omega,trivial⟩
    case measure=>simp [intOf]; omega
   ·
    obtain⟨z,rfl⟩:=Int.eq_ofNat_of_zero_le hb.1;have HN2:=J (show Jx (ps.take (k+1))=m+z by rw [G HNX,if_neg hy,Int.toNat_natCast]);have hz1:(1:Int)≤(z:Int):=by omega
    have hz8:z≤8:=by omega
    clear HNX hb hy;go_wp2;go_roundw
    case rel=>exact⟨k+1,by go_num,by rw [G HN2]; go_num,by omega,trivial⟩
    case measure=>simp [intOf]; omega
  ·
   have hkn:k=ps.length:=by omega
   subst hkn;rw [List.take_length];clear c0;go_wp2;go_ret;exact⟨rfl,G HB⟩
theorem Kc {w w':World}{v:Value}{ws:List Int}(h:Lv w v ws)(hb:Below w.heap.size w w'):Lv w' v ws:=Yx h hb
structure Zbj where
 kind:Int
 vals:List Int
 tr:List (Int×List Int)
 steps:Int
def Up:Zbj:=⟨0,[],[],0⟩
def Mk (V:World)(B:Nat)(o:Zbj)(vv tv:Value):Prop:=V.ownsRow B 62 1 vv o.vals.length (uC o.vals)∧∃ es,TrI V B (fun _=>True) tv o.tr es
theorem Ge (V:World)(B:Nat):Mk V B Up (.slice none 0 0) (.slice none 0 0):=⟨World.ownsRow_nil _ _ _ _,[],⟨rfl,World.ownsRow_nil _ _ _ _,fun _ _=>trivial,fun k hk=>absurd hk (Nat.not_lt_zero k)⟩⟩
theorem Cg {V V':World}{B:Nat}{o:Zbj}{vv tv:Value}(h:Mk V B o vv tv)(hk:∀ g,B≤g→g<V.heap.size→V'.heap[g]?=V.heap[g]?):Mk V' B o vv tv:=by
 obtain⟨h1,es,h2⟩:=h;exact⟨Yq h1 fun g hg=>hk g (h1.lt g hg).1 (h1.lt g hg).2,es,h2.keep (fun g _ _ hr _ hb _=>hk g hb (Zd hr)) (fun _ _ _ h=>h)⟩
theorem Gf {V:World}{B B':Nat}{o:Zbj}{vv tv:Value}(h:Mk V B o vv tv)(hB:B'≤B):Mk V B' o vv tv:=by
 obtain⟨h1,es,h2⟩:=h;exact⟨Gy h1 hB,es,⟨h2.len,Gy h2.row hB,fun _ _=>trivial,fun k hk=>⟨Gy (h2.each k hk).1 hB,fun _ _=>trivial⟩⟩⟩
theorem Yr {V V':World}{B:Nat}{o:Zbj}{vv tv:Value}(h:Mk V B o vv tv)(hb:Below V.heap.size V V'):Mk V' B o vv tv:=Cg h fun g _ hg=>hb.block g hg
theorem Gz {V:World}{B g:Nat}{o:Zbj}{vv tv:Value}(h:Mk V B o vv tv)(hg:g<B)(cs:Array Value):Mk (V.setRow g cs) B o vv tv:=Cg h fun q hq _=>setRow_other _ _ _ _ (by omega)
abbrev Oh (P:Zl)(f:Int)(args:List Int)(fuel:Int):Prop:=0≤f∧f<P.funcs.length∧args.length=Xe (P.funcs.getD f.toNat Ze).params∧0≤fuel∧fuel≤20000
def Mz (P:Zl)(f:Int)(args sc:List Int)(fuel:Int):Zy:=ev P fuel.toNat [Jj (P.funcs.getD f.toNat Ze) args []] sc []
def Gp (T:Lr)(P:Zl)(f:Int)(args sc:List Int)(fuel:Int):Zbj :=
 if (Um T P).e=0 then (if Oh P f args fuel then ⟨Ln (Mz P f args sc fuel),Md (Mz P f args sc fuel),Zz (Mz P f args sc fuel),Yd fuel.toNat (Mz P f args sc fuel)⟩ else Up) else Up
def Mg (T:Lr)(P:Zl)(f:Int)(args:List Int)(fuel:Int):Ia:=if (Um T P).e=0 then (if Oh P f args fuel then ⟨0,-1,-1,-1⟩ else ⟨6,-1,-1,-1⟩) else Um T P
theorem Zeh {T:Lr}{P:Zl}{f fuel:Int}{args:List Int}(sc:List Int)(hc:(Um T P).e=0)(h:Oh P f args fuel):Gp T P f args sc fuel=⟨Ln (Mz P f args sc fuel),Md (Mz P f args sc fuel),Zz (Mz P f args sc fuel),Yd fuel.toNat (Mz P f args sc fuel)⟩∧Mg T P f args fuel=⟨0,-1,-1,-1⟩:=by
 unfold Gp Mg;rw [if_pos hc,if_pos hc,if_pos h,if_pos h];exact⟨rfl,rfl⟩
theorem Ow {T:Lr}{P:Zl}{f fuel:Int}{args:List Int}(sc:List Int)(hc:(Um T P).e=0)(h:¬ Oh P f args fuel):Gp T P f args sc fuel=Up∧Mg T P f args fuel=⟨6,-1,-1,-1⟩:=by
 unfold Gp Mg;rw [if_pos hc,if_pos hc,if_neg h,if_neg h];exact⟨rfl,rfl⟩
theorem Zbk {T:Lr}{P:Zl}{f fuel:Int}{args:List Int}(sc:List Int)(hc:¬ (Um T P).e=0):Gp T P f args sc fuel=Up∧Mg T P f args fuel=Um T P:=by
 unfold Gp Mg;rw [if_neg hc,if_neg hc];exact⟨rfl,rfl⟩
theorem Zbl {T:Lr}{P:Zl}(hc:(Um T P).e=0)(hwd:∀ f ∈ P.funcs,∀ l ∈ f.blocks,∀ i ∈ l,0≤i.n∧i.n<18446744073709551616):Yp P:=by
 obtain⟨-,h2,h3,h4⟩:=Zij (show(Gr (Zpa T) T.r (Zt T.sp T.lk T.t0 T.t1) P).e=0 from hc);exact⟨h2,⟨_,_,h3⟩,h4,hwd⟩
set_option maxHeartbeats 4000000 in
set_option maxRecDepth 100000 in
theorem Zph (T:Lr)(P:Zl)(f fuel:Int)(args sc:List Int)(ap sp:Option Addr)(ac scc:Nat)(fv ev:Value)(A E:Nat→Array Value)(w:World)(hA:Zdw w T P fv ev A E)(hwd:∀ f ∈ P.funcs,∀ l ∈ f.blocks,∀ i ∈ l,0≤i.n∧i.n<18446744073709551616)(hAr:Lv w (.slice ap args.length ac) args)(hSc:Lv w (.slice sp sc.length scc) sc)(har:∀ n ∈ args,0≤n∧n<18446744073709551616)(hsr:∀ n ∈ sc,0≤n∧n<18446744073709551616) :
 Calls Tryz.prog 30 #[.agg T.box,.agg #[fv,ev],.int .i64 f,.slice ap args.length ac,.slice sp sc.length scc,.int .i64 fuel] w fun e w'=>∃ vv tv er,e=.returned (.tuple #[.agg #[.int .i64 (Gp T P f args sc fuel).kind,vv,.int .i64 0,tv,.int .i64 (Gp T P f args sc fuel).steps,.int .i64 0],er])∧Mk w' w.heap.size (Gp T P f args sc fuel) vv tv∧Mq w' er (Mg T P f args fuel)∧Below w.heap.size w w':=by
 obtain⟨pf,cf,hfs⟩:=hA.p.fs.shape;obtain⟨pe,ce,hes⟩:=hA.p.es.shape;subst hfs hes;have hlf:P.funcs.length<9223372036854775808:=by obtain⟨_,_,_,_,h,_⟩:=hA.p.fs; exact h
 have hla:args.length<4611686018427387904:=by obtain⟨_,_,_,_,h,_⟩:=hAr; exact h
 obtain⟨r0,r1,r2,hZ,hB⟩:=Zaw w (.cells T.box 25 (0,0)) (.cells #[.slice pf P.funcs.length cf,.slice pe P.externs.length ce] 29 (0,0)) (.cells #[.int .i64 0,.slice none 0 0,.int .i64 0,.slice none 0 0,.int .i64 0,.int .i64 0] 38 (0,0));have HA:=J hA;have HCK:=J (fun(V:World) (hV:Below w.heap.size w V)=>show Calls Tryz.prog 39 #[.agg #[.int .i64 T.r,.int .i64 T.sp,.int .i64 T.lk,.int .i64 T.t0,.int .i64 T.t1,.slice T.pa T.ag.length T.ca,.slice T.pr T.rs.length T.cr,.slice T.ps T.ss.length T.cs,.int .i64 T.al,.int .i64 T.sh,.int .i64 T.br,.bool T.pairs],.agg #[.slice pf P.funcs.length cf,.slice pe P.externs.length ce]] V (fun e w'=>∃ v,e=.returned v∧Mq w' v (Um T P)∧Below V.heap.size V w') from Zhp T.r T.sp T.lk T.t0 T.t1 _ _ _ T.al T.sh T.br T.pairs T.ag T.rs T.ss P _ _ A E V (Zfi (Jy hA hV).t) (Jy hA hV).p hA.nn (Jy hA hV).na (Jy hA hV).one);have HR0:=J r0;have HR1:=J r1;have HR2:=J r2;have HB:=J hB;have HWD:=J hwd;have HAR:=J hAr;have HSC:=J hSc;have HARB:=J har;have HSCB:=J hsr;clear r0 r1 r2 hB hA hwd hAr hSc har hsr;have hbx:T.box=#[.int .i64 T.r,.int .i64 T.sp,.int .i64 T.lk,.int .i64 T.t0,.int .i64 T.t1,.slice T.pa T.ag.length T.ca,.slice T.pr T.rs.length T.cr,.slice T.ps T.ss.length T.cs,.int .i64 T.al,.int .i64 T.sh,.int .i64 T.br,.bool T.pairs]:=rfl;rw [hbx] at HR0 HR1 HR2 HB hZ ⊢;clear hbx;go_enter Tryz.func30,Tryz.ntmps30
 go_wp2_with fail
 generalize World.alloc (World.alloc (World.alloc w _) _) _=W at HR0 HR1 HR2 HB hZ ⊢;refine(G HCK W (G HB)).mono ?_;rintro e w2 ⟨v,rfl,he,hb⟩;have hz2:=hb.size;have HB2:=J (Za (G HB) hb (by omega));have HQ1:=J ((hb.block (w.heap.size+1) (by omega)).trans (G HR1));have HQ2:=J ((hb.block (w.heap.size+1+1) (by omega)).trans (G HR2));have HE:=J he;clear hb HR0 HR1 HR2 HCK HB;by_cases hc:(Um T P).e=0
 ·
  obtain rfl:=Zgm he hc;have HC0:=J hc;have HGD:=J (Zbl hc (G HWD));clear hc he HWD;by_cases hf:0≤f∧f<P.funcs.length
  ·
   obtain⟨k0,hk⟩:∃ k:Nat,f=k:=⟨f.toNat,by omega⟩;subst hk;have hk0:k0<P.funcs.length:=by omega
   have hn1:¬ ((k0:Int)<0):=by omega
   have hn2:¬ ((P.funcs.length:Int)≤(k0:Int)):=by omega
   have hkI:(k0:Int)<(P.funcs.length:Int):=by omega
   obtain⟨pf',cf',hbe,-,-,hpc⟩:=((G HA).p.below (G HB2)).fs;injection hbe with e1 e2 e3;subst e1 e3;obtain⟨fb,fo,hpf,hfb,hcells⟩:=hpc (by omega);subst hpf;have hfn:=((G HA).p.below (G HB2)).feach k0 hk0;obtain⟨pv,hv,sv,bv,B,hAk,hD⟩:=hfn;have hFN:=J (show Oz w2 (A k0) (P.funcs.getD k0 Ze) by rw [Yu _ _ _ hk0]; exact⟨pv,hv,sv,bv,B,hAk,hD⟩);have HFS:=J hcells;have hrg:=hcells k0 hk0;rw [hAk] at hrg;generalize hfd:P.funcs[k0]=fn at hD hAk hrg;have hgd:P.funcs.getD k0 Ze=fn:=by rw [Yu _ _ _ hk0,hfd]
   obtain⟨pp,pc,rfl⟩:=hD.ps.shape;obtain⟨qh,ch,rfl⟩:=hD.hs.shape;obtain⟨qs,cs,rfl⟩:=hD.ss.shape;obtain⟨qb,cb,rfl⟩:=hD.bs.shape;have HGF:=J hgd;have hH:=(G HGD).fnH ⟨k0,hk0,hgd.symm⟩;have HH:=J hH;have HSG:=J (Zla fn (.slice pp fn.params.length pc) (.slice qh fn.homes.length ch) (.slice qs fn.slots.length cs) (.slice qb fn.blocks.length cb) w2 hD.ps (by have:=hH.pl; omega));have g0:=hrg 0 _ rfl;have g1:=hrg 1 _ rfl;have g2:=hrg 2 _ rfl;have g3:=hrg 3 _ rfl;have g4:=hrg 4 _ rfl;rw [Nat.add_zero] at g0;have p0:=cR (G HQ1) 0;have p1:=cR (G HQ1) 1;clear hD hAk hrg hcells hpc hfd hgd hH e2;go_wp2_with fail
   refine(G HSG).mono ?_;rintro e w3 ⟨sgv,rfl,hsg,hb3,-⟩;have hz3:=hb3.size;have HWC:=J (Zcy sgv (Xn fn).1 fn.results w3 hsg (by unfold Xn; simpa using (G HH).pl) (Zbc (G HH)).1);have HB3:=J hb3;clear hsg hb3 HSG g0 g1 g2 g3 g4;go_wp2_with fail
   refine(G HWC).mono ?_;rintro e w4 ⟨rfl,hb4⟩;rw [show(Xn fn).1=fn.params.map (·.1) from rfl,Zah];have hz4:=hb4.size;have HB24:=J (Za (G HB3) hb4 (by omega));have HP4:=J (((G HB24).block (w.heap.size+1) (by omega)).trans (G HQ1));have HQ4:=J (((G HB24).block (w.heap.size+1+1) (by omega)).trans (G HQ2));have HB4:=J (Za (G HB2) (G HB24) (by omega));clear hb4 HWC p0 p1 HQ1 HQ2 HE;by_cases hal:args.length=Xe fn.params
   ·
    have hne:((args.length:Int) != (Xe fn.params:Int))=false:=by simp; omega
    by_cases hfu:0≤fuel∧fuel≤20000
    ·
     obtain⟨fu,hfq⟩:∃ k:Nat,fuel=k:=⟨fuel.toNat,by omega⟩;subst hfq;have hu1:¬ ((fu:Int)<0):=by omega
     have hu2:¬ ((20000:Int)<(fu:Int)):=by omega
     have HFF:=J (Zeh (args:=args) sc (G HC0) (show Oh P (k0:Int) args (fu:Int) from⟨by omega,by omega,by rw [Int.toNat_natCast,G HGF]; exact hal,by omega,by omega⟩));have q0:=cR (G HP4) 0;obtain⟨r5,hb5,hz5⟩:=Yj w4 (.cells #[.slice (some ⟨fb,fo,none⟩) P.funcs.length cf,.slice sp sc.length scc,.slice none 0 0,.int .i64 0,.slice none 0 0,.int .i64 0,.slice none 0 0,.int .i64 0,.int .i64 0] 110 (0,0));have HR5:=J r5;have HB5:=J hb5;have HZ5:=J hz5;have HAL:=J hal;clear r5 hb5 hz5 hal hf;go_upto_region 9 with fail
     clear q0;generalize World.alloc w4 _=W5 at HR5 HB5 HZ5 ⊢;have hPG:PgI w4 P fb fo A:=⟨fun i hi j x hx=>((G HB24).cell (p:=⟨fb,fo+i*5+j,none⟩) hfb).trans (G HFS i hi j x hx),by omega,fun k hk=>by rw [Yu _ _ _ hk]; exact((G HA).p.below (G HB4)).feach k hk⟩;have HPG:=J hPG;have hS5:Xc w4 W5 w4.heap.size w4.heap.size [] (.slice none 0 0) (.slice none 0 0) [] []:=⟨G HB5,Nat.le_refl _,Nat.le_refl _,fun _ h=>(by cases h),List.Pairwise.nil,World.ownsRow_nil _ _ _ _,fun _ h=>(by cases h),⟨rfl,World.ownsRow_nil _ _ _ _,fun _ h=>(by cases h),fun k hk=>absurd hk (Nat.not_lt_zero k)⟩⟩;have HEN:=J (Zbh w4 W5 w4.heap.size w4.heap.size [] none 0 (.slice none 0 0) (.slice none 0 0) (.slice sp sc.length scc) [] [] 0 0 hS5 fn k0 fb fo cf P.funcs.length A (G HR5) hk0 hPG.fs hPG.lt (by rw [← G HGF]; exact hPG.each k0 hk0) (G HH) args [] ap none ac 0 (Yx (Kc (G HAR) (G HB4)) (G HB5)) (Li.nil _) (G HAL) (G HARB) (Nat.zero_le _));clear hPG hS5;go_wp2_with fail
     refine(G HEN).mono ?_;rintro e w6 ⟨⟨v6,rfl⟩,f6,fp6,fc6,hx6,-,-,-,hR6,hS6,hB6,-⟩;have hwf:WfS P [f6.x]:=by
      rw [hx6];exact⟨Cd (G HGD) ⟨k0,hk0,(G HGF).symm⟩ (G HARB) _,rfl⟩
     have HSP:=J (Zlp P w4 w6 w4.heap.size w4.heap.size fb fo cf fu A (Mz P (k0:Int) args sc (fu:Int)) (G HGD) (G HPG) (by omega) ⟨f6,[],sp,scc,sc,_,_,[],[],hR6,Kc (G HSC) (G HB4),hS6,hwf,G HSCB,by
      unfold Mz;rw [Int.toNat_natCast,Int.toNat_natCast,Nat.sub_zero,G HGF];show _=ev P fu [f6.x] sc [];rw [hx6],Nat.le_refl _,Nat.le_refl _⟩ (Nat.le_refl _))
     have HB6:=J hB6;clear hx6 hR6 hS6 hB6 hwf HEN HR5;go_wp2_with fail
     refine(G HSP).mono ?_;rintro e w7 ⟨⟨v7,rfl⟩,hE7,hB7⟩;obtain⟨scv,frv,tp9,tc9,es9,vp9,vc9,hR7,hv7,ht7⟩:=hE7;have hB47:Below w4.heap.size w4 w7:=(G HB5).trans ((G HB6).trans hB7);have HQ7:=J ((hB47.block (w.heap.size+1+1) (by omega)).trans (G HQ4));have HB7:=J (Za (G HB4) hB47 (by have:=(G HB4).size; omega));have HFF2:=J (show Gp T P (k0:Int) args sc (fu:Int)=⟨Ln (Mz P (k0:Int) args sc (fu:Int)),Md (Mz P (k0:Int) args sc (fu:Int)),Zz (Mz P (k0:Int) args sc (fu:Int)),Yd fu (Mz P (k0:Int) args sc (fu:Int))⟩∧Mg T P (k0:Int) args (fu:Int)=⟨0,-1,-1,-1⟩ from G HFF);generalize Mz P (k0:Int) args sc (fu:Int)=r at HFF2 hR7 hv7 ht7;have HO7:=J (show Mk w7 w4.heap.size ⟨Ln r,Md r,Zz r,Yd fu r⟩ _ _ from⟨hv7,es9,⟨ht7.len,ht7.row,fun _ _=>trivial,fun k hk=>⟨(ht7.each k hk).1,fun _ _=>trivial⟩⟩⟩);have s0:=cR hR7 3;have s1:=cR hR7 4;have s2:=cR hR7 5;have s3:=cR hR7 6;have s4:=cR hR7 7;have s5:=cR hR7 8;clear hR7 hv7 ht7 hB47 hB7 HSP HB6 HB5 HFF;go_wp2_with (refine wpList_store_row rfl 38 _ _ rfl (w.heap.size+1+1) #[.int .i64 (Ln r),.slice vp9 (Md r).length vc9,.int .i64 0,.slice tp9 (Zz r).length tc9,.int .i64 (Yd fu r:Nat),.int .i64 0] rfl rfl 38 _ (G HQ7) (Tryz.infOutP.trans rfl) rfl (by simp [Value.oneCell']) ?_)
     refine bodyPost_ret (Gm (fn:=Tryz.f30) (p:=12) (q:=13) (px:=38) rfl _ _ (w.heap.size+1+1) 38 #[.int .i64 (Ln r),.slice vp9 (Md r).length vc9,.int .i64 0,.slice tp9 (Zz r).length tc9,.int .i64 (Yd fu r:Nat),.int .i64 0] (0,0) _ rfl (setRow_heap _ _ _ _ _ _ (G HQ7)) Tryz.underlying38 rfl (Tryz.infOutP.trans rfl)) rfl ?_;rw [(G HFF2).1,(G HFF2).2];exact⟨_,_,_,rfl,Gf (Gz (G HO7) (by omega) _) (by omega),Or.inl ⟨rfl,rfl⟩,Zh (G HB7) (by omega)⟩
    ·
     have HFF:=J (Ow (args:=args) sc (G HC0) (show ¬ Oh P (k0:Int) args fuel from fun h=>hfu h.2.2.2));have HQ2:=HQ4;have HB2':=HB4;clear HB2;have HB2:=HB2';by_cases hneg:fuel<0
     ·
      clear hfu;go_wp2_with (refine wpList_store_row rfl 38 _ _ rfl (w.heap.size+1+1) #[.int .i64 0,.slice none 0 0,.int .i64 0,.slice none 0 0,.int .i64 0,.int .i64 0] rfl rfl 38 _ (G HQ2) (Tryz.infOutP.trans rfl) rfl (by simp [Value.oneCell']) ?_)
      refine bodyPost_ret (Gm (fn:=Tryz.f30) (p:=12) (q:=13) (px:=38) rfl _ _ (w.heap.size+1+1) 38 #[.int .i64 0,.slice none 0 0,.int .i64 0,.slice none 0 0,.int .i64 0,.int .i64 0] (0,0) _ rfl (setRow_heap _ _ _ _ _ _ (G HQ2)) Tryz.underlying38 rfl (Tryz.infOutP.trans rfl)) rfl ?_;rw [(G HFF).1,(G HFF).2];exact⟨_,_,_,rfl,Ge _ _,Or.inr (Or.inl ⟨6,by decide,rfl,rfl⟩),Zh (G HB2) (by omega)⟩
     ·
      have hge:(20000:Int)<fuel:=by omega
      clear hfu;go_wp2_with (refine wpList_store_row rfl 38 _ _ rfl (w.heap.size+1+1) #[.int .i64 0,.slice none 0 0,.int .i64 0,.slice none 0 0,.int .i64 0,.int .i64 0] rfl rfl 38 _ (G HQ2) (Tryz.infOutP.trans rfl) rfl (by simp [Value.oneCell']) ?_)
      refine bodyPost_ret (Gm (fn:=Tryz.f30) (p:=12) (q:=13) (px:=38) rfl _ _ (w.heap.size+1+1) 38 #[.int .i64 0,.slice none 0 0,.int .i64 0,.slice none 0 0,.int .i64 0,.int .i64 0] (0,0) _ rfl (setRow_heap _ _ _ _ _ _ (G HQ2)) Tryz.underlying38 rfl (Tryz.infOutP.trans rfl)) rfl ?_;rw [(G HFF).1,(G HFF).2];exact⟨_,_,_,rfl,Ge _ _,Or.inr (Or.inl ⟨6,by decide,rfl,rfl⟩),Zh (G HB2) (by omega)⟩
   ·
    have hne:((args.length:Int) != (Xe fn.params:Int))=true:=by simp; omega
    have HFF:=J (Ow (args:=args) (fuel:=fuel) sc (G HC0) (show ¬ Oh P (k0:Int) args fuel from fun h=>hal (by have:=h.2.2.1; rwa [Int.toNat_natCast,G HGF] at this)));have HQ2:=HQ4;have HB2':=HB4;clear HB2 hal;have HB2:=HB2';go_wp2_with (refine wpList_store_row rfl 38 _ _ rfl (w.heap.size+1+1) #[.int .i64 0,.slice none 0 0,.int .i64 0,.slice none 0 0,.int .i64 0,.int .i64 0] rfl rfl 38 _ (G HQ2) (Tryz.infOutP.trans rfl) rfl (by simp [Value.oneCell']) ?_)
    refine bodyPost_ret (Gm (fn:=Tryz.f30) (p:=12) (q:=13) (px:=38) rfl _ _ (w.heap.size+1+1) 38 #[.int .i64 0,.slice none 0 0,.int .i64 0,.slice none 0 0,.int .i64 0,.int .i64 0] (0,0) _ rfl (setRow_heap _ _ _ _ _ _ (G HQ2)) Tryz.underlying38 rfl (Tryz.infOutP.trans rfl)) rfl ?_;rw [(G HFF).1,(G HFF).2];exact⟨_,_,_,rfl,Ge _ _,Or.inr (Or.inl ⟨6,by decide,rfl,rfl⟩),Zh (G HB2) (by omega)⟩
  ·
   have HFF:=J (Ow (args:=args) (fuel:=fuel) sc (G HC0) (show ¬ Oh P f args fuel from fun h=>hf ⟨h.1,h.2.1⟩));clear HC0 HE HGD;have p0:=cR (G HQ1) 0;have p1:=cR (G HQ1) 1;by_cases hneg:f<0
   ·
    clear hf;go_wp2_with (refine wpList_store_row rfl 38 _ _ rfl (w.heap.size+1+1) #[.int .i64 0,.slice none 0 0,.int .i64 0,.slice none 0 0,.int .i64 0,.int .i64 0] rfl rfl 38 _ (G HQ2) (Tryz.infOutP.trans rfl) rfl (by simp [Value.oneCell']) ?_)
    refine bodyPost_ret (Gm (fn:=Tryz.f30) (p:=12) (q:=13) (px:=38) rfl _ _ (w.heap.size+1+1) 38 #[.int .i64 0,.slice none 0 0,.int .i64 0,.slice none 0 0,.int .i64 0,.int .i64 0] (0,0) _ rfl (setRow_heap _ _ _ _ _ _ (G HQ2)) Tryz.underlying38 rfl (Tryz.infOutP.trans rfl)) rfl ?_;rw [(G HFF).1,(G HFF).2];exact⟨_,_,_,rfl,Ge _ _,Or.inr (Or.inl ⟨6,by decide,rfl,rfl⟩),Zh (G HB2) (by omega)⟩
   ·
    have hge:(P.funcs.length:Int)≤f:=by omega
    clear hf;go_wp2_with (refine wpList_store_row rfl 38 _ _ rfl (w.heap.size+1+1) #[.int .i64 0,.slice none 0 0,.int .i64 0,.slice none 0 0,.int .i64 0,.int .i64 0] rfl rfl 38 _ (G HQ2) (Tryz.infOutP.trans rfl) rfl (by simp [Value.oneCell']) ?_)
    refine bodyPost_ret (Gm (fn:=Tryz.f30) (p:=12) (q:=13) (px:=38) rfl _ _ (w.heap.size+1+1) 38 #[.int .i64 0,.slice none 0 0,.int .i64 0,.slice none 0 0,.int .i64 0,.int .i64 0] (0,0) _ rfl (setRow_heap _ _ _ _ _ _ (G HQ2)) Tryz.underlying38 rfl (Tryz.infOutP.trans rfl)) rfl ?_;rw [(G HFF).1,(G HFF).2];exact⟨_,_,_,rfl,Ge _ _,Or.inr (Or.inl ⟨6,by decide,rfl,rfl⟩),Zh (G HB2) (by omega)⟩
 ·
  obtain⟨et,eu,rfl⟩:=Zgn he hc;have HFF:=J (Zbk (args:=args) (fuel:=fuel) (f:=f) sc hc);clear hc he;go_wp2_with (refine wpList_store_row rfl 38 _ _ rfl (w.heap.size+1+1) #[.int .i64 0,.slice none 0 0,.int .i64 0,.slice none 0 0,.int .i64 0,.int .i64 0] rfl rfl 38 _ (G HQ2) (Tryz.infOutP.trans rfl) rfl (by simp [Value.oneCell']) ?_)
  refine bodyPost_ret (Gm (fn:=Tryz.f30) (p:=12) (q:=13) (px:=38) rfl _ _ (w.heap.size+1+1) 38 #[.int .i64 0,.slice none 0 0,.int .i64 0,.slice none 0 0,.int .i64 0,.int .i64 0] (0,0) _ rfl (setRow_heap _ _ _ _ _ _ (G HQ2)) Tryz.underlying38 rfl (Tryz.infOutP.trans rfl)) rfl ?_;rw [(G HFF).1,(G HFF).2];exact⟨_,_,_,rfl,Ge _ _,Zac (G HE) (G HQ2) rfl _,Zh (G HB2) (by omega)⟩
set_option maxHeartbeats 2000000 in
set_option maxRecDepth 100000 in
theorem Zlz (v:Value)(ps:List Int)(res:Int)(w:World)(h:Li w v ps)(hl:ps.length≤8)(hp:∀ k,k<ps.length→0≤ps.getD k 0∧ps.getD k 0≤8) :
 Calls Tryz.prog 21 #[.agg #[v,.int .i64 res]] w fun e w'=>e=.returned (.int .i64 (Jx ps:Nat))∧Below w.heap.size w w':=by
 obtain⟨q,c,rfl⟩:=h.shape;obtain⟨r0,hb0,hz0⟩:=Yj w (.cells #[.slice q ps.length c,.int .i64 res] 56 (0,0));have HL:=J (h.below hb0);have HB:=J hb0;have HP:=J hp;have HLE:=J (Cf ps hp);have c0:=cR r0 0;clear h r0 hb0 hz0 hp;go_enter Tryz.func21,Tryz.ntmps21
 go_upto_region 2 with fail
 generalize World.alloc w _=W at HL HB c0 ⊢;go_wp2_with fail
 go_loopw [9,3] (fun sk sn w'=>∃ k:Nat,sk=.int .i64 k∧sn=.int .i64 (Jx (ps.take k):Nat)∧k≤ps.length∧w'=W) (fun sk _ _=>ps.length-(intOf sk).toNat)
 case atStart=>exact⟨0,rfl,by simp [Jx],by omega,rfl⟩
 case round =>
  obtain⟨k,rfl,rfl,hk,hw⟩:=hrel;subst wr;by_cases hk2:k<ps.length
  ·
   obtain⟨p',c',e1,-,-,hcc⟩:=G HL;injection e1 with f1 f2 f3;obtain⟨sb,so,hsp,hcell⟩:=hcc (by omega);rw [← f1] at hsp;subst hsp;have d:=hcell k hk2;have hb:=G HP k hk2;have hle:=G HLE k hk;have HNX:=J (Dt ps k hk2);generalize Jx (ps.take k)=m at hle HNX ⊢;generalize ps.getD k 0=y at d hb HNX;clear f1 f2 f3 hcc hcell c0;by_cases hy:y=0
   ·
    subst hy;have HN2:=J (show Jx (ps.take (k+1))=m+1 by rw [G HNX,if_pos rfl]);clear HNX hb;go_wp2;go_roundw
    case rel=>exact⟨k+1,by go_num,by rw [G HN2]; go_num,by omega,trivial⟩
    case measure=>simp [intOf]; omega
   ·
    obtain⟨z,rfl⟩:=Int.eq_ofNat_of_zero_le hb.1;have HN2:=J (show Jx (ps.take (k+1))=m+z by rw [G HNX,if_neg hy,Int.toNat_natCast]);have hz1:(1:Int)≤(z:Int):=by omega
    have hz8:z≤8:=by omega
    clear HNX hb hy;go_wp2;go_roundw
    case rel=>exact⟨k+1,by go_num,by rw [G HN2]; go_num,by omega,trivial⟩
    case measure=>simp [intOf]; omega
  ·
   have hkn:k=ps.length:=by omega
   subst hkn;rw [List.take_length];clear c0;go_wp2;go_ret;exact⟨rfl,G HB⟩
structure Nf (V:World)(x:Xk)(B vb sb:Nat)(gs:List Nat):Prop where
 v:V.heap[vb]?=some (.cells (uC x.v).toArray 62 (0,0))
 vB:B≤vb
 s:V.heap[sb]?=some (.cells (Ic gs (x.s.map List.length)).toArray 101 (0,0))
 sB:B≤sb
 len:gs.length=x.s.length
 each:∀ k,k<x.s.length→V.heap[gs.getD k 0]?=some (.cells (yC (x.s.getD k [])).toArray 5 (0,0))∧B≤gs.getD k 0
 inj:∀ j k,j<k→k<gs.length→gs.getD j 0<gs.getD k 0
section
variable {V V':World} {x:Xk} {B vb sb:Nat} {gs:List Nat}
theorem Nf.keep (h:Nf V x B vb sb gs)(h1:V'.heap[vb]?=V.heap[vb]?)(h2:V'.heap[sb]?=V.heap[sb]?)(h3:∀ k,k<x.s.length→V'.heap[gs.getD k 0]?=V.heap[gs.getD k 0]?):Nf V' x B vb sb gs :=
 ⟨h1.trans h.v,h.vB,h2.trans h.s,h.sB,h.len,fun k hk=>⟨(h3 k hk).trans (h.each k hk).1,(h.each k hk).2⟩,h.inj⟩
theorem Nf.below (h:Nf V x B vb sb gs)(hb:Below V.heap.size V V'):Nf V' x B vb sb gs:=h.keep (hb.block _ (Zd h.v)) (hb.block _ (Zd h.s)) fun k hk=>hb.block _ (Zd (h.each k hk).1)
theorem Nf.slot (h:Nf V x B vb sb gs){k:Nat}(hk:k<x.s.length):V.cell? ⟨sb,k,none⟩=some (.slice (some ⟨gs.getD k 0,0,none⟩) (x.s.getD k []).length (x.s.getD k []).length):=by
 rw [Zi h.s k];unfold Ic;simp [List.getD,hk]
theorem Nf.loc (h:Nf V x B vb sb gs){k:Nat}(hk:k<x.v.length):V.cell? ⟨vb,k,none⟩=some (.int .u64 (x.v.getD k 0)):=(Zi h.v k).trans (by simp [uC,List.getD,hk])
end
set_option maxHeartbeats 2000000 in
theorem Zei (b:Nat)(fv ev tv:Value)(ab ao:Nat)(c:Nat)(p1:Option Addr)(fuel steps kind code fn n0:Int)(n:Nat)(w:World)(h:So w b fv ev fuel steps (.slice (some ⟨ab,ao,none⟩) (n+1) c) kind code tv fn)(h0:w.cell? ⟨ab,ao,none⟩=some (.int .u64 n0))(hn:n<4611686018427387904)(hc:n+1≤c)(hp:p1=if c=1 then some ⟨ab,ao,none⟩ else some ⟨ab,ao+1,none⟩) :
 Calls Tryz.prog 57 #[.pointer (some ⟨b,0,none⟩)] w fun e w'=>e=.returned (.int .u64 n0)∧Ok b w w'∧So w' b fv ev fuel steps (.slice p1 n (c-1)) kind code tv fn:=by
 have c4:=cR h 4;have z4:=frozen_of_row _ _ 4 _ _ h;have hzz:(((n:Int)+1)==0)=false:=by simp; omega
 by_cases hc1:c=1
 ·
  rw [if_pos hc1] at hp;subst hp hc1;obtain rfl:n=0:=by omega
  have HX:=J (show So (w.setCell ⟨b,4,none⟩ (.slice (some ⟨ab,ao,none⟩) 0 0)) b fv ev fuel steps (.slice (some ⟨ab,ao,none⟩) 0 0) kind code tv fn from heap_setCell_same _ _ 4 _ _ _ h);have HO:=J (show Ok b w (w.setCell ⟨b,4,none⟩ (.slice (some ⟨ab,ao,none⟩) 0 0)) from⟨rfl,rfl,rfl,by simp,fun q hq=>heap_setCell_other _ _ _ _ hq⟩);clear h;go_enter Tryz.func57,Tryz.ntmps57
  go_wp2;go_ret;exact⟨rfl,G HO,G HX⟩
 ·
  rw [if_neg hc1] at hp;subst hp;have HX:=J (show So (w.setCell ⟨b,4,none⟩ (.slice (some ⟨ab,ao+1,none⟩) n (c-1))) b fv ev fuel steps (.slice (some ⟨ab,ao+1,none⟩) n (c-1)) kind code tv fn from heap_setCell_same _ _ 4 _ _ _ h);have HO:=J (show Ok b w (w.setCell ⟨b,4,none⟩ (.slice (some ⟨ab,ao+1,none⟩) n (c-1))) from⟨rfl,rfl,rfl,by simp,fun q hq=>heap_setCell_other _ _ _ _ hq⟩);clear h;go_enter Tryz.func57,Tryz.ntmps57
  go_wp2;go_ret;exact⟨rfl,G HO,G HX⟩
set_option maxHeartbeats 4000000 in
set_option maxRecDepth 100000 in
theorem Zbm (x:Xk)(B vb sb:Nat)(gs:List Nat)(args:List (Int×Int))(ap:Option Addr)(ac:Nat)(w:World)(h:Nf w x B vb sb gs)(hok:IOk x)(hl:LS 2 w (.slice ap args.length ac) args.length (fun k=>Yz (args.getD k (0,0))))(han:args.length≤100)(hA:∀ k,k<args.length→Rh x (args.getD k (0,0)))(hsl:∀ l ∈ x.s,l.length≤65536) :
 Calls Tryz.prog 56 #[.slice (some ⟨vb,0,none⟩) x.v.length x.v.length,.slice (some ⟨sb,0,none⟩) x.s.length x.s.length,.slice ap args.length ac] w fun e w'=>∃ v,e=.returned v∧w'.ownsRow w.heap.size 62 1 v (Zv x args).length (uC (Zv x args))∧Below w.heap.size w w':=by
 obtain⟨ti,hti,hty0,hty1,hty2⟩:=Xs Tryz.infoU64;have H:=J h;have HL:=J hl;have HA:=J hA;have HOK:=J hok;have HSL:=J hsl;have HLEN:=J (Uv x args hA);clear h hl hA hok hsl;go_enter Tryz.func56,Tryz.ntmps56
 go_wp2;go_loopw [13,7] (fun sk sv w'=>∃(k:Nat) (v:Value),sk=.int .i64 k∧sv=v∧k≤args.length∧w'.ownsRow w.heap.size 62 1 v (Zv x (args.take k)).length (uC (Zv x (args.take k)))∧Below w.heap.size w w') (fun sk _ _=>args.length-(intOf sk).toNat)
 case atStart=>exact⟨0,_,rfl,rfl,by omega,World.ownsRow_nil _ _ _ _,Below.refl _ _⟩
 case round =>
  obtain⟨k,v0,rfl,rfl,hk,how,hbw⟩:=hrel;obtain⟨vp,vc,rfl⟩:=Zm how;by_cases hk2:k<args.length
  ·
   obtain⟨p',c',e1,-,-,hcc⟩:=(G HL).below hbw;injection e1 with f1 f2 f3;obtain⟨asb,aso,hsp,hsb,hcell⟩:=hcc (by omega);rw [← f1] at hsp;subst hsp;have hrg:=hcell k hk2;dsimp only at hrg;have ho:=G HA k hk2;have HNX:=J (Dq x args k hk2);have hln:=G HLEN k hk;generalize args.getD k (0,0)=a at hrg ho HNX;obtain⟨a1,a2⟩:=a;obtain⟨hw0,hw8,hf0,hov,hos⟩:=ho;simp only at hw0 hw8 hf0 hov hos;obtain⟨nw,rfl⟩:=Int.eq_ofNat_of_zero_le hw0;obtain⟨m,rfl⟩:=Int.eq_ofNat_of_zero_le hf0;have d0:=hrg 0 _ rfl;have d1:=hrg 1 _ rfl;rw [Nat.add_zero] at d0;obtain⟨acc,hacc⟩:∃ l,l=Zv x (args.take k):=⟨_,rfl⟩;rw [← hacc] at how HNX hln ⊢;have HOWR:=J how;have HBR:=J hbw;have hzr:=hbw.size;clear how hbw hcc hcell hrg f1 f2 f3 hacc;obtain⟨hra,hba,-⟩:=Yj wr (.cells #[.int .i64 (nw:Int),.int .i64 (m:Int)] 139 (0,0));go_upto_region 5 with fail
   clear d0 d1;generalize World.alloc wr _=V1 at hra hba ⊢;have HOW:=J (Yq (G HOWR) (fun g e=>hba.block g (World.ownsRow.lt (G HOWR) g e).2));have HBV:=J (Za (G HBR) hba hzr);have HFV:=J ((G H).below (G HBV));have HRA:=J hra;generalize wr.heap.size=ba at hra HRA hzr ⊢;clear hba HOWR HBR;have a0:=cR hra 0;have a1:=cR hra 1;by_cases hz:nw=0
   ·
    subst hz;have hml:m<x.v.length:=by have:=hov rfl; omega
    have hmI:(m:Int)<(x.v.length:Int):=by omega
    obtain⟨y,hy⟩:∃ y,y=x.v.getD m 0:=⟨_,rfl⟩;have HNX:=J (show Zv x (args.take (k+1))=acc++[y] by rw [G HNX,hy]; rfl);have g0:V1.cell? ⟨vb,m,none⟩=some (.int .u64 y):=by rw [hy]; exact(G HFV).loc hml
    clear hra hov hos hy;go_wp2_with (at_builtin; refine wpList_append_own _ rfl _ _ 30 rfl w.heap.size 62 ti _ 1 8 Tryz.underlying30 hti hty0 hty1 hty2 rfl (by decide) _ _ _ rfl (World.ownsRow.alloc (G HOW) _) ⟨V1.heap.size,0,none⟩ 1 1 [.int .u64 y] rfl rfl (by intro j u hj; match j,hj with | 0,hj=>(simp at hj; subst hj; simp [Addr.add])) (by intro u hu; simp at hu; subst hu; rfl) ?c3 ?c4 ?c5 ?_)
    case c3=>unfold maxLen; omega
    case c4=>omega
    case c5=>have:=(G HBV).size; simp; omega
    intro v7 w7 hown7 hgr7 _;have HX:=J (show w7.ownsRow w.heap.size 62 1 v7 (acc++[y]).length (uC (acc++[y])) by rw [Uu,List.length_append]; exact hown7);have HB7:=J (Rg (G HBV) (G HOW) hgr7);have b0:w7.cell? ⟨ba,0,none⟩=some (.int .i64 0):=by
     have ha:=(Yj V1 (.cells #[.int .u64 y] 62 (0,0)));have hba:=Zd (G HRA);have hr:(V1.alloc (.cells #[.int .u64 y] 62 (0,0))).heap[ba]?=_:=(ha.2.1.block ba hba).trans (G HRA);exact(cR ((hgr7.block ba (Zd hr) (fun e=>Xu (G HOW) (G HRA) (by decide) e.symm)).trans hr) 0)
    clear hown7 hgr7 a0 a1 g0;go_wp2;go_loopw [10,7] (fun si sv w'=>∃ i:Nat,si=.int .i64 i∧sv=v7∧w'=w7) (fun _ _ _=>0)
    case atStart=>exact⟨0,rfl,rfl,rfl⟩
    case round =>
     obtain⟨i,rfl,rfl,hw⟩:=hrel;subst wr;have hi0:¬ ((i:Int)<0):=by omega
     go_wp2;go_roundw
     case rel=>exact⟨k+1,_,by go_num,rfl,by omega,by rw [G HNX]; exact G HX,G HB7⟩
     case measure=>simp [intOf]; omega
   ·
    have hzz:¬ ((nw:Int)=0):=by omega
    obtain⟨hsl,hs8⟩:=hos hzz;have hml:m<x.s.length:=by omega
    have hmI:(m:Int)<(x.s.length:Int):=by omega
    have zz:((nw:Int)==0)=false:=by simp; omega
    have hsc:=(G HFV).slot hml;obtain⟨ga,hga⟩:∃ g,g=gs.getD m 0:=⟨_,rfl⟩;obtain⟨bs,hbs⟩:∃ l,l=x.s.getD m []:=⟨_,rfl⟩;have hgr:=((G HFV).each m hml).1;have hmem:bs ∈ x.s:=by rw [hbs]; simp [List.getD,hml]
    have HBL:=J (G HSL bs hmem);have HBY:=J (fun n hn=>(G HOK).s bs hmem n hn);rw [← hga,← hbs] at hsc hgr;rw [Int.toNat_natCast,← hbs] at hs8;have HNX:=J (show Zv x (args.take (k+1))=acc++(List.range nw).map (fun j=>Ns bs (8*j) 8) by rw [G HNX,hbs]; unfold Ib; rw [if_neg hzz]; rfl);have HGA:=J hga;have HBS:=J hbs;clear hra hov hos hgr hsc hga hbs hmem hsl hzz a1;have hnw8:nw≤8:=by omega
    go_wp2;clear a0;go_loopw [10,7] (fun sj sv w'=>∃(j:Nat) (v:Value),sj=.int .i64 j∧sv=v∧j≤nw∧w'.ownsRow w.heap.size 62 1 v (acc++(List.range j).map (fun j=>Ns bs (8*j) 8)).length (uC (acc++(List.range j).map (fun j=>Ns bs (8*j) 8)))∧Below w.heap.size w w'∧w'.heap[ba]?=some (.cells #[.int .i64 (nw:Int),.int .i64 (m:Int)] 139 (0,0))) (fun sj _ _=>nw-(intOf sj).toNat)
    case atStart=>exact⟨0,_,rfl,rfl,by omega,by simpa using G HOW,G HBV,G HRA⟩
    case round =>
     obtain⟨j,vj,rfl,rfl,hj,how,hbw,hbar⟩:=hrel;have a0:=cR hbar 0;have a1:=cR hbar 1;by_cases hj2:j<nw
     ·
      have HNJ:=J (show acc++(List.range (j+1)).map (fun j=>Ns bs (8*j) 8)=(acc++(List.range j).map (fun j=>Ns bs (8*j) 8))++[Ns bs (8*j) 8] by rw [List.range_succ,List.map_append,← List.append_assoc]; rfl);have hlj:(acc++(List.range j).map (fun j=>Ns bs (8*j) 8)).length≤8*k+8:=by simp; omega
      generalize acc++(List.range j).map (fun j=>Ns bs (8*j) 8)=acc at how HNJ hlj ⊢;obtain⟨vp,vc,rfl⟩:=Zm how;have hF:=(G H).below hbw;have s0:wr.cell? ⟨sb,m,none⟩=some (.slice (some ⟨ga,0,none⟩) bs.length bs.length):=by rw [G HGA,G HBS]; exact hF.slot hml
      have hgr2:wr.heap[ga]?=some (.cells (yC bs).toArray 5 (0,0)):=by rw [G HGA,G HBS]; exact(hF.each m hml).1
      have HLC:=J (show Calls Tryz.prog 55 #[.slice (some ⟨ga,0,none⟩) bs.length bs.length,.int .i64 (8*(j:Int)),.int .i64 8] wr (fun e w'=>e=.returned (.int .u64 (Ns bs (8*j) 8))∧w'=wr) from Zin bs ga (8*j) 8 wr hgr2 (G HBY) (by decide) (by omega) (G HBL));have hwj:IntKind.i64.wrap (8*(j:Int))=8*(j:Int):=by rw [IntKind.wrap_i64]; omega
      have hjI:(j:Int)<(nw:Int):=by omega
      obtain⟨y,hy⟩:∃ y,y=Ns bs (8*j) 8:=⟨_,rfl⟩;rw [← hy] at HLC HNJ;clear hy;have HOW:=J how;have HBV:=J hbw;have HBAR:=J hbar;have hzw:=hbw.size;clear how hbw hbar hF hgr2;go_wp2_with fail
      refine(G HLC).mono ?_;rintro e w5 ⟨rfl,hw5⟩;subst w5;go_wp2_with (at_builtin; refine wpList_append_own _ rfl _ _ 30 rfl w.heap.size 62 ti _ 1 8 Tryz.underlying30 hti hty0 hty1 hty2 rfl (by decide) _ _ _ rfl (World.ownsRow.alloc (G HOW) _) ⟨wr.heap.size,0,none⟩ 1 1 [.int .u64 y] rfl rfl (by intro j u hj; match j,hj with | 0,hj=>(simp at hj; subst hj; simp [Addr.add])) (by intro u hu; simp at hu; subst hu; rfl) ?e3 ?e4 ?e5 ?_)
      case e3=>unfold maxLen; omega
      case e4=>omega
      case e5=>simp; omega
      intro v7 w7 hown7 hgr7 _;have HX:=J (show w7.ownsRow w.heap.size 62 1 v7 (acc++[y]).length (uC (acc++[y])) by rw [Uu,List.length_append]; exact hown7);have HB7:=J (Rg (G HBV) (G HOW) hgr7);have HR7:=J (show w7.heap[ba]?=some (.cells #[.int .i64 (nw:Int),.int .i64 (m:Int)] 139 (0,0)) by
       have ha:=(Yj wr (.cells #[.int .u64 y] 62 (0,0)));have hr:=(ha.2.1.block ba (Zd (G HBAR))).trans (G HBAR);exact(hgr7.block ba (Zd hr) (fun e=>Xu (G HOW) (G HBAR) (by decide) e.symm)).trans hr)
      clear hown7 hgr7 a0 a1 s0;go_wp2;go_roundw
      case rel=>exact⟨j+1,_,by go_num,rfl,by omega,by rw [G HNJ]; exact G HX,G HB7,G HR7⟩
      case measure=>simp [intOf]; omega
     ·
      have hjn:j=nw:=by omega
      subst hjn;have HOW:=J how;have HBV:=J hbw;clear how hbw hbar a1;go_wp2;go_roundw
      case rel=>exact⟨k+1,_,by go_num,rfl,by omega,by rw [G HNX]; exact G HOW,G HBV⟩
      case measure=>simp [intOf]; omega
  ·
   have hkn:k=args.length:=by omega
   subst hkn;rw [List.take_length] at how;rw [List.take_length];have HOW:=J how;have HBW:=J hbw;clear how hbw;go_wp2;go_ret;exact⟨_,rfl,G HOW,G HBW⟩
structure Nt (w0 V:World)(pb b:Nat)(N:Nat→Prop)(fv ev:Value)(fuel steps:Int)(sv:Value)(sc:List Int)(kind code:Int)(tv:Value)(tr:List (Int×List Int))(es:List Value)(fnn:Int):Prop where
 low:Below w0.heap.size w0 V
 w0b:w0.heap.size≤b
 pbb:b≤pb
 row:So V pb fv ev fuel steps sv kind code tv fnn
 scl:Lv w0 sv sc
 scb:∀ n ∈ sc,0≤n∧n<18446744073709551616
 tri:TrI V b N tv tr es
 npb:∀ g,N g→g≠pb
structure Xj (b pb:Nat)(M:Nat→Prop)(w w':World):Prop where
 os:w'.os=w.os
 tape:w'.tape=w.tape
 output:w'.output=w.output
 size:w.heap.size≤w'.heap.size
 oth:∀ g,g<w.heap.size→g≠pb→¬ M g→(g<b∨∀ cs,w.heap[g]?≠some (.cells cs 82 (0,0)))→w'.heap[g]?=w.heap[g]?
theorem Xj.refl (b pb:Nat)(M:Nat→Prop)(w:World):Xj b pb M w w:=⟨rfl,rfl,rfl,Nat.le_refl _,fun _ _ _ _ _=>rfl⟩
theorem Xj.trans {b pb:Nat}{M:Nat→Prop}{u v w:World}(h:Xj b pb M u v)(k:Xj b pb M v w):Xj b pb M u w :=
 ⟨k.os.trans h.os,k.tape.trans h.tape,k.output.trans h.output,Nat.le_trans h.size k.size,fun g h1 h2 h3 h4=>by
  have e:=h.oth g h1 h2 h3 h4;exact(k.oth g (Nat.lt_of_lt_of_le h1 h.size) h2 h3 (by rw [e]; exact h4)).trans e⟩
theorem Xj.mono {b pb:Nat}{M M':Nat→Prop}{u v:World}(h:Xj b pb M u v)(hm:∀ g,g<u.heap.size→M g→M' g):Xj b pb M' u v:=⟨h.os,h.tape,h.output,h.size,fun g h1 h2 h3 h4=>h.oth g h1 h2 (fun e=>h3 (hm g h1 e)) h4⟩
theorem Gq {b pb:Nat}{M:Nat→Prop}{u v:World}(h:Below u.heap.size u v):Xj b pb M u v:=⟨h.os,h.tape,h.output,h.size,fun g h1 _ _ _=>h.block g h1⟩
theorem Ux {b pb:Nat}{M:Nat→Prop}{u v:World}(h:Ok pb u v):Xj b pb M u v:=⟨h.os,h.tape,h.output,Nat.le_of_eq h.size.symm,fun g _ h2 _ _=>h.oth g h2⟩
theorem Xj.row {b pb:Nat}{M:Nat→Prop}{u v:World}(h:Xj b pb M u v){g:Nat}{cs:Array Value}{t:TypeId}(hr:u.heap[g]?=some (.cells cs t (0,0)))(h1:g≠pb)(h2:¬ M g)(ht:t≠82):v.heap[g]?=some (.cells cs t (0,0)) :=
 (h.oth g (Zd hr) h1 h2 (Or.inr fun cs' e=>by rw [hr] at e; injection e with e; injection e with e1 e2; exact ht e2)).trans hr
section
variable {w0 V V':World} {pb b:Nat} {N:Nat→Prop} {fv ev sv tv:Value} {fuel steps kind code fnn:Int} {sc:List Int} {tr:List (Int×List Int)} {es:List Value}
theorem Nt.keep (h:Nt w0 V pb b N fv ev fuel steps sv sc kind code tv tr es fnn)(h1:V'.os=V.os)(h2:V'.tape=V.tape)(h3:V'.output=V.output)(h4:V.heap.size≤V'.heap.size)(hk:∀ g,g<b→V'.heap[g]?=V.heap[g]?)(hp:V'.heap[pb]?=V.heap[pb]?)(ht:∀ g cs t,V.heap[g]?=some (.cells cs t (0,0))→t=82∨t=62→b≤g→N g→V'.heap[g]?=V.heap[g]?):Nt w0 V' pb b N fv ev fuel steps sv sc kind code tv tr es fnn :=
 ⟨⟨h1.trans h.low.os,h2.trans h.low.tape,h3.trans h.low.output,Nat.le_trans h.low.size h4,fun g hg=>(hk g (Nat.lt_of_lt_of_le hg h.w0b)).trans (h.low.block g hg)⟩,h.w0b,h.pbb,hp.trans h.row,h.scl,h.scb,h.tri.keep ht (fun _ _ _ h=>h),h.npb⟩
theorem Nt.blt (h:Nt w0 V pb b N fv ev fuel steps sv sc kind code tv tr es fnn):b<V.heap.size:=Nat.lt_of_le_of_lt h.pbb (Zd h.row)
theorem Nt.grow (h:Nt w0 V pb b N fv ev fuel steps sv sc kind code tv tr es fnn)(hb:Below V.heap.size V V'):Nt w0 V' pb b N fv ev fuel steps sv sc kind code tv tr es fnn :=
 h.keep hb.os hb.tape hb.output hb.size (fun g hg=>hb.block g (by have:=h.blt; omega)) (hb.block pb (Zd h.row)) (fun g _ _ hr _ _ _=>hb.block g (Zd hr))
theorem Nt.own {sv':Value}{sc':List Int}{steps' kind' code' fnn':Int}(h:Nt w0 V pb b N fv ev fuel steps sv sc kind code tv tr es fnn)(hO:Ok pb V V')(hr:So V' pb fv ev fuel steps' sv' kind' code' tv fnn')(hs:Lv w0 sv' sc')(hb:∀ n ∈ sc',0≤n∧n<18446744073709551616):Nt w0 V' pb b N fv ev fuel steps' sv' sc' kind' code' tv tr es fnn' :=
 ⟨⟨hO.os.trans h.low.os,hO.tape.trans h.low.tape,hO.output.trans h.low.output,by rw [hO.size]; exact h.low.size,fun g hg=>(hO.oth g (by have:=h.w0b; have:=h.pbb; omega)).trans (h.low.block g hg)⟩,h.w0b,h.pbb,hr,hs,hb,h.tri.keep (fun g _ _ _ _ _ hN=>hO.oth g (h.npb g hN)) (fun _ _ _ h=>h),h.npb⟩
theorem Nt.vars {vb:Nat}{gs:List Nat}(h:Nt w0 V pb b N fv ev fuel steps sv sc kind code tv tr es fnn)(hv:∃ cs,V.heap[vb]?=some (.cells cs 62 (0,0)))(hg:∀ g ∈ gs,∃ cs,V.heap[g]?=some (.cells cs 5 (0,0)))(hvb:b≤vb)(hgb:∀ g ∈ gs,b≤g)(hN:¬ N vb)
 (h1:V'.os=V.os) (h2:V'.tape=V.tape) (h3:V'.output=V.output) (h4:V.heap.size≤V'.heap.size) (hk:∀ g,g<V.heap.size→g≠vb→g ∉ gs→V'.heap[g]?=V.heap[g]?):Nt w0 V' pb b N fv ev fuel steps sv sc kind code tv tr es fnn:=by
 have hb:=h.blt;obtain⟨cv,hv⟩:=hv;have hne:∀{g cs t},V.heap[g]?=some (.cells cs t (0,0))→t≠5→g ∉ gs:=fun{g cs t} hr ht hm=>by
  obtain⟨c,hc⟩:=hg g hm;exact Zs hr hc ht rfl
 refine h.keep h1 h2 h3 h4 (fun g hg'=>hk g (by omega) (by omega) (fun hm=>by have:=hgb g hm; omega)) (hk pb (Zd h.row) (Zs h.row hv (by decide)) (hne h.row (by decide))) (fun g cs t hr ht _ hNg=>hk g (Zd hr) (fun e=>hN (e ▸ hNg)) (hne hr (by rcases ht with rfl | rfl <;> decide)))
end
def Uy (w0 w':World)(pb b B:Nat)(N:Nat→Prop)(fv ev:Value)(F:Nat)(res:Int)(lv:Value):Zy→Prop
 | .inl (l,m,sc,tr)=>m≤F∧(l.length:Int)=res∧(∀ n ∈ l,0≤n∧n<18446744073709551616)∧w'.ownsRow B 62 1 lv l.length (uC l)∧∃ sp scc tp tc es fnn,Nt w0 w' pb b N fv ev F ((F-m:Nat):Int) (.slice sp sc.length scc) sc 0 0 (.slice tp tr.length tc) tr es fnn
 | .inr (.inl (c,m,sc,tr))=>m≤F∧lv=.slice none 0 0∧∃ sp scc tp tc es fnn,Nt w0 w' pb b N fv ev F ((F-m:Nat):Int) (.slice sp sc.length scc) sc 2 c (.slice tp tr.length tc) tr es fnn
 | .inr (.inr (sc,tr))=>lv=.slice none 0 0∧∃ sp scc tp tc es fnn,Nt w0 w' pb b N fv ev F (F:Int) (.slice sp sc.length scc) sc 3 0 (.slice tp tr.length tc) tr es fnn
theorem Znu {w0:World}{fn:Zn}{pv hv sv bv:Value}{B:Nat→Value}{P:Zl}{x:Xk}(hD:Ng w0 fn pv hv sv bv B)(hW:Lp P x)(hfn:x.fn=fn):∃ bb bo bc isb iso ic bn nx xap xac xop xoc,x.b=((bn:Nat):Int)∧x.i=((nx:Nat):Int)∧bn<fn.blocks.length∧nx<(fn.blocks.getD bn []).length∧bv=.slice (some ⟨bb,bo,none⟩) fn.blocks.length bc∧w0.cell? ⟨bb,bo+bn,none⟩=some (.slice (some ⟨isb,iso,none⟩) (fn.blocks.getD bn []).length ic)∧(∀ j y,#[Value.int .i64 (Zo x).op,.int .i64 (Zo x).d,.int .i64 (Zo x).a,.int .i64 (Zo x).bb,.int .u64 (Zo x).n,.int .i64 (Zo x).f,.slice xap (Zo x).args.length xac,.slice xop (Zo x).outs.length xoc][j]?=some y→w0.cell? ⟨isb,iso+nx*8+j,none⟩=some y)∧LS 2 w0 (.slice xap (Zo x).args.length xac) (Zo x).args.length (fun k=>Yz ((Zo x).args.getD k (0,0)))∧Li w0 (.slice xop (Zo x).outs.length xoc) (Zo x).outs:=by
 obtain⟨bn,hb⟩:=Int.eq_ofNat_of_zero_le hW.b0;obtain⟨nx,hn⟩:=Int.eq_ofNat_of_zero_le hW.i0;have hbl:=hW.b1;have hnl:=hW.i1;rw [hb,hfn] at hbl;rw [hb,hn,hfn,Int.toNat_natCast] at hnl;have hbl:bn<fn.blocks.length:=by omega
 have hnl:nx<(fn.blocks.getD bn []).length:=by omega
 have hins:Zo x=(fn.blocks.getD bn []).getD nx Lt:=by unfold Zo; rw [hb,hn,hfn]; rfl
 obtain⟨bp',bcap,hbe,-,-,hbc⟩:=hD.bs.ones;obtain⟨bb,bo,rfl,hbcell⟩:=hbc (by omega);obtain⟨IA,hIL,hIE⟩:=hD.each bn hbl;have hge:fn.blocks.getD bn []=fn.blocks[bn]:=Yu _ _ _ hbl;rw [hge] at hnl hins;obtain⟨ip,ic,hBk⟩:=hIL.shape;rw [hBk] at hIL;obtain⟨ip',ic',hie,-,-,hicell⟩:=hIL;injection hie with f1 f2 f3;subst f1 f3;obtain⟨isb,iso,rfl,-,hic2⟩:=hicell (by omega);have hrg:=hic2 nx hnl;obtain⟨av,ov,hIA,hxa,hxo⟩:=hIE nx hnl;have hgi:(fn.blocks[bn]).getD nx Lt=(fn.blocks[bn])[nx]:=Yu _ _ _ hnl;rw [hgi] at hins;have hc1:=hbcell bn hbl;rw [hBk] at hc1;rw [← hins] at hIA hxa hxo;obtain⟨xap,xac,rfl⟩:=hxa.shape;obtain⟨xop,xoc,rfl⟩:=hxo.shape;rw [hIA] at hrg;exact⟨bb,bo,bcap,isb,iso,ic,bn,nx,xap,xac,xop,xoc,hb,hn,hbl,by rw [hge]; exact hnl,hbe,by rw [hge]; exact hc1,fun j y hy=>hrg j y (by simpa using hy),hxa,hxo⟩
theorem Nf.setv {V:World}{x:Xk}{B vb sb:Nat}{gs:List Nat}(h:Nf V x B vb sb gs)(d:Nat)(n:Int):Nf (V.setCell ⟨vb,d,none⟩ (.int .u64 n)) { x with v:=x.v.set d n } B vb sb gs:=by
 have h1:(V.setCell ⟨vb,d,none⟩ (.int .u64 n)).heap[vb]?=some (.cells (uC (x.v.set d n)).toArray 62 (0,0)):=by
  rw [heap_setCell_same _ _ d _ _ (.int .u64 n) h.v,Ziq]
 exact⟨h1,h.vB,(heap_setCell_other _ _ _ _ (Zs h.s h.v (by decide))).trans h.s,h.sB,h.len,fun k hk=>⟨(heap_setCell_other _ _ _ _ (Zs (h.each k hk).1 h.v (by decide))).trans (h.each k hk).1,(h.each k hk).2⟩,h.inj⟩
theorem Nf.mem {V:World}{x:Xk}{B vb sb:Nat}{gs:List Nat}(h:Nf V x B vb sb gs):∀ g ∈ gs,∃ cs,V.heap[g]?=some (.cells cs 5 (0,0)):=fun g hg=>by
 obtain⟨k,hk,rfl⟩:=List.getElem_of_mem hg;have:=(h.each k (by rw [← h.len]; exact hk)).1;rw [show gs.getD k 0=gs[k] by simp [List.getD,hk]] at this;exact⟨_,this⟩
theorem Nf.memB {V:World}{x:Xk}{B vb sb:Nat}{gs:List Nat}(h:Nf V x B vb sb gs):∀ g ∈ gs,B≤g:=fun g hg=>by
 obtain⟨k,hk,rfl⟩:=List.getElem_of_mem hg;have:=(h.each k (by rw [← h.len]; exact hk)).2;rwa [show gs.getD k 0=gs[k] by simp [List.getD,hk]] at this
theorem Nf.sets {V:World}{x:Xk}{B vb sb:Nat}{gs:List Nat}(h:Nf V x B vb sb gs)(k:Nat)(hk:k<x.s.length)(a kk:Nat)(v:Int):Nf (Uz V (gs.getD k 0) a v kk) { x with s:=x.s.set k (Sd (x.s.getD k []) a kk v) } B vb sb gs:=by
 have hg:=(h.each k hk).1;have hl:(Sd (x.s.getD k []) a kk v).length=(x.s.getD k []).length:=Rc _ _ _ _;refine⟨(Jc V _ a v vb (Zs h.v hg (by decide)) kk).trans h.v,h.vB,?_,h.sB,by simp [h.len],fun j hj=>?_,h.inj⟩
 ·
  show _=some (Obj.cells (Ic gs ((x.s.set k _).map List.length)).toArray _ (0,0));rw [Oq _ _ _ hl];exact(Jc V _ a v sb (Zs h.s hg (by decide)) kk).trans h.s
 ·
  have hj':j<x.s.length:=by simpa using hj
  show _=some (Obj.cells (yC ((x.s.set k _).getD j [])).toArray _ (0,0))∧_;rw [Re _ _ _ _ hk];by_cases hjk:j=k
  ·
   subst hjk;rw [if_pos rfl];exact⟨Rd V _ a v _ hg kk,(h.each j hj').2⟩
  ·
   rw [if_neg hjk];have hne:gs.getD j 0≠gs.getD k 0:=by
    have hgl:=h.len;rcases Nat.lt_or_ge j k with h' | h'
    ·
     have:=h.inj j k h' (by omega); omega
    ·
     have:=h.inj k j (by omega) (by omega); omega
   exact⟨(Jc V _ a v _ hne kk).trans (h.each j hj').1,(h.each j hj').2⟩
theorem Nf.nx {V:World}{x:Xk}{B vb sb:Nat}{gs:List Nat}(h:Nf V x B vb sb gs)(b i:Int):Nf V { x with b:=b,i:=i } B vb sb gs:=⟨h.v,h.vB,h.s,h.sB,h.len,h.each,h.inj⟩
theorem Zjm (P:Zl):∀(n:Nat) (st:List Xk) (sc:List Int) (tr:List (Int×List Int)),(∀ l m sc' tr',ev P n st sc tr=.done l m sc' tr'→tr'.length+m≤tr.length+n∧m≤n)∧(∀ c m sc' tr',ev P n st sc tr=.trap c m sc' tr'→tr'.length+m≤tr.length+n∧m≤n)∧∀ sc' tr',ev P n st sc tr=.spent sc' tr'→tr'.length≤tr.length+n
 | 0,_,_,_=>⟨fun _ _ _ _ h=>(by cases h),fun _ _ _ _ h=>(by cases h),fun _ _ h=>(by cases h; omega)⟩
 | _+1,[],_,_=>⟨fun _ _ _ _ h=>(by cases h),fun _ _ _ _ h=>(by cases h),fun _ _ h=>(by cases h; omega)⟩
 | n+1,x :: R,sc,tr=>by
  rw [Ou];cases hs:Ot P x R sc tr using Ud.el with
  | go st sc' tr' =>
   have hl:=(Zfo hs).2;obtain⟨h1,h2,h3⟩:=Zjm P n st sc' tr';refine⟨fun l m a b h=>?_,fun c m a b h=>?_,fun a b h=>?_⟩
   ·
    have:=h1 l m a b h; omega
   ·
    have:=h2 c m a b h; omega
   ·
    have:=h3 a b h; omega
  | done l sc' tr' =>
   refine⟨fun l m a b h=>?_,fun c m a b h=>(by cases h),fun a b h=>(by cases h)⟩;cases h
   have:tr'=tr:=by
    unfold Ot at hs;repeat' split at hs
    all_goals cases hs
    rfl
   subst this;omega
  | trap c sc' tr' =>
   refine⟨fun l m a b h=>(by cases h),fun c m a b h=>?_,fun a b h=>(by cases h)⟩;cases h
   have:tr'=tr:=by
    unfold Ot at hs;repeat' split at hs
    all_goals cases hs
    rfl
   subst this;omega
def Sf (P:Zl)(w0:World)(pb b fb fo fc F:Nat)(xv:Value)(n:Nat):Prop :=
 ∀(N:Nat→Prop) (w:World) (k:Nat) (ws o:List Int) (wp sp tp:Option Addr) (wc scc tc:Nat) (sc:List Int) (tr:List (Int×List Int)) (es:List Value) (fnn:Int),Nt w0 w pb b N (.slice (some ⟨fb,fo,none⟩) P.funcs.length fc) xv F ((F-n:Nat):Int) (.slice sp sc.length scc) sc 0 0 (.slice tp tr.length tc) tr es fnn→(∀ g,w.heap.size≤g→N g)→n≤F→k<P.funcs.length→ws.length=Xe (P.funcs.getD k Ze).params→(∀ n ∈ ws,0≤n∧n<18446744073709551616)→Lv w (.slice wp ws.length wc) ws→tr.length≤F-n →
  Calls Tryz.prog 24 #[.pointer (some ⟨pb,0,none⟩),.int .i64 (k:Int),.slice wp ws.length wc] w fun e w'=>∃ lv,e=.returned lv∧Uy w0 w' pb b w.heap.size N (.slice (some ⟨fb,fo,none⟩) P.funcs.length fc) xv F (P.funcs.getD k Ze).results lv (ev P n [Jj (P.funcs.getD k Ze) ws o] sc tr)∧Xj b pb (fun _=>False) w w'
def Sg (P:Zl)(w0 w V:World)(pb b vb sb fbx:Nat)(gs:List Nat)(N:Nat→Prop)(fv xv:Value)(F:Nat)(fn:Zn)(box:Array Value)(r0:Zy)(o:List Int)(m e:Nat)(x:Xk)(sc:List Int)(tr:List (Int×List Int))(es:List Value)(sp tp:Option Addr)(scc tc:Nat)(fnn:Int):Prop :=
 (x.fn=fn∧Lp P x∧x.o=o)∧Nf V x b vb sb gs∧V.heap[fbx]?=some (.cells box 60 (0,0))∧Xj b pb (fun g=>g=vb∨g ∈ gs) w V∧Nt w0 V pb b N fv xv F ((F-m:Nat):Int) (.slice sp sc.length scc) sc 0 0 (.slice tp tr.length tc) tr es fnn∧r0=ev P e [x] sc tr∧tr.length≤F-e∧e≤F
section
variable {P:Zl} {w0 w V V':World} {pb b vb sb fbx:Nat} {gs:List Nat} {N:Nat→Prop} {fv xv:Value} {F:Nat} {fn:Zn} {box:Array Value} {r0:Zy} {o:List Int} {m e:Nat} {x:Xk} {sc:List Int} {tr:List (Int×List Int)} {es:List Value} {sp tp:Option Addr} {scc tc:Nat} {fnn:Int}
theorem Sg.grow (h:Sg P w0 w V pb b vb sb fbx gs N fv xv F fn box r0 o m e x sc tr es sp tp scc tc fnn)(hb:Below V.heap.size V V'):Sg P w0 w V' pb b vb sb fbx gs N fv xv F fn box r0 o m e x sc tr es sp tp scc tc fnn:=by
 obtain⟨h1,h2,h3,h4,h5,h6,h7⟩:=h;exact⟨h1,h2.below hb,(hb.block _ (Zd h3)).trans h3,h4.trans (Gq hb),h5.grow hb,h6,h7⟩
theorem Sg.own {sp':Option Addr}{sc':List Int}{scc' m':Nat}{fnn':Int}(h:Sg P w0 w V pb b vb sb fbx gs N fv xv F fn box r0 o m e x sc tr es sp tp scc tc fnn)(hO:Ok pb V V'):Nf V' x b vb sb gs∧V'.heap[fbx]?=some (.cells box 60 (0,0))∧Xj b pb (fun g=>g=vb∨g ∈ gs) w V'∧(So V' pb fv xv F ((F-m':Nat):Int) (.slice sp' sc'.length scc') 0 0 (.slice tp tr.length tc) fnn'→Lv w0 (.slice sp' sc'.length scc') sc'→(∀ n ∈ sc',0≤n∧n<18446744073709551616)→Nt w0 V' pb b N fv xv F ((F-m':Nat):Int) (.slice sp' sc'.length scc') sc' 0 0 (.slice tp tr.length tc) tr es fnn'):=by
 obtain⟨h1,h2,h3,h4,h5,-⟩:=h;have hr:=h5.row;exact⟨h2.keep (hO.oth _ (Zs h2.v hr (by decide))) (hO.oth _ (Zs h2.s hr (by decide))) (fun k hk=>hO.oth _ (Zs (h2.each k hk).1 hr (by decide))),(hO.oth _ (Zs h3 hr (by decide))).trans h3,h4.trans (Ux hO),fun a b c=>h5.own hO a b c⟩
theorem Sg.loc (h:Sg P w0 w V pb b vb sb fbx gs N fv xv F fn box r0 o m (m+1) x sc tr es sp tp scc tc fnn)(hG:Yp P)(hN:¬ N vb){X:Xk}(hX:Ld (Zp x) (Zo x)=X)(h12:(Zo x).op≠12)(h13:(Zo x).op≠13)(h16:(Zo x).op<16)(hR:Nf V' X b vb sb gs)(h1:V'.os=V.os)(h2:V'.tape=V.tape)(h3:V'.output=V.output)(h4:V.heap.size≤V'.heap.size)(hk:∀ g,g<V.heap.size→g≠vb→g ∉ gs→V'.heap[g]?=V.heap[g]?) :
 Sg P w0 w V' pb b vb sb fbx gs N fv xv F fn box r0 o m m X sc tr es sp tp scc tc fnn:=by
 obtain⟨⟨f1,f2,f3⟩,k2,k3,k4,k5,k6,k7,k8⟩:=h;have hwf:=f2.loc hG h16;rw [hX] at hwf;refine⟨⟨by rw [← hX,Zfn]; exact f1,hwf,by rw [← hX,Zdz]; exact f3⟩,hR,(hk fbx (Zd k3) (Zs k3 k2.v (by decide)) (fun hm=>by obtain⟨c,hc⟩:=k2.mem fbx hm; exact Zs k3 hc (by decide) rfl)).trans k3,k4.trans ⟨h1,h2,h3,h4,fun g g1 _ g3 _=>hk g g1 (fun e=>g3 (Or.inl e)) (fun e=>g3 (Or.inr e))⟩,k5.vars ⟨_,k2.v⟩ k2.mem k2.vB k2.memB hN h1 h2 h3 h4 hk,?_,by omega,by omega⟩;rw [k6,Ou];unfold Ot;rw [if_neg h12,if_neg h13,if_neg (by omega),if_neg (by omega),if_neg (by omega),hX];rfl
end
end Go.Proofs.YteddfaconabobaaGreatDoor
