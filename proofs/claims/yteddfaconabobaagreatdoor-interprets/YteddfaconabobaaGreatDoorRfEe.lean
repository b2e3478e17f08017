import Derived.Test.YteddfaconabobaaGreatDoorPk
import Derived.Test.YteddfaconabobaaGreatDoorJ31
import Derived.Deep.RegionHeld3
import Derived.Test.YteddfaconabobaaGreatDoorJ28
namespace Go.Proofs.YteddfaconabobaaGreatDoor
open Go.RowKit
set_option maxHeartbeats 4000000 in
set_option maxRecDepth 100000 in
theorem Zlx {P:Zl}{w0 W V:World}{pb b vb sb fbx ib:Nat}{gs:List Nat}{N:Nat→Prop}{fv xv:Value}{F:Nat}{fn:Zn}{box:Array Value}{r0:Ye}{o:List Int}{m:Nat}{x:Xl}{sc:List Int}{tr:List (Int×List Int)}{es:List Value}{sp tp:Option Addr}{scc tc:Nat}{fnn:Int}{Q0:Exit→Act→World→Prop}{a1 a4 a6 a7 a8 a9:Value}{s:Nat→Value}{d a bb n f_:Int}{args:List (Int×Int)}{outs:List Int}{xap xop:Option Addr}{xac xoc:Nat}{B n0 fb fo fc:Nat}(hG:Yp P)(hNv:¬ N vb)(hB:Se P w0 W V pb b vb sb fbx gs N fv xv F fn box r0 o m (m+1) x sc tr es sp tp scc tc fnn)(hi:Zo x=⟨12,d,a,bb,n,f_,args,outs⟩)(hX:V.heap[ib]?=some (.cells #[.int .i64 12,.int .i64 d,.int .i64 a,.int .i64 bb,.int .u64 n,.int .i64 f_,.slice xap args.length xac,.slice xop outs.length xoc] 65 (0,0)))(hfv:fv=(.slice (some ⟨fb,fo,none⟩) P.funcs.length fc))(hex:ExN P w0 W pb b vb sb fbx ib gs N fv xv F fn box r0 o m Q0 a1 a4 a6 a7 a8 a9)(hret:ExR P w0 W pb b vb B gs N fv xv F n0 fn r0 o Q0)(hxa:LS 2 w0 (.slice xap args.length xac) args.length (fun k=>Yz (args.getD k (0,0))))(hxo:Li w0 (.slice xop outs.length xoc) outs)(hN:∀ g,W.heap.size≤g→N g)(hcall:Sd P w0 pb b fb fo fc F xv m) :
 Code.wp Tryz.prog (Db 4) Q0 (Fr (.pointer (some ⟨pb,0,none⟩)) a1 (.slice (some ⟨vb,0,none⟩) fn.homes.length fn.homes.length) (.slice (some ⟨sb,0,none⟩) fn.slots.length fn.slots.length) a4 (.pointer (some ⟨fbx,0,none⟩)) a6 a7 a8 a9 (.int .i64 x.b) (.int .i64 (x.i+1)) (.pointer (some ⟨ib,0,none⟩)) s) V:=by
 have hfl:=(hB.1.2.1.insG hG).fld;have hfn:=hB.1.1;have hvl:x.v.length=fn.homes.length:=by rw [hB.1.2.1.v,hfn]
 have hsl:x.s.length=fn.slots.length:=by rw [hB.1.2.1.slen,hfn]
 have hRF:=hB.2.1;rw [hi] at hfl;rw [hfn] at hfl;have HEX:=J hex;have HRET:=J hret;have HX:=J hX;subst hfv;have hwc:=Zbd hG hB.1.2.1 (by rw [hi]);rw [hi] at hwc;dsimp only at hwc;obtain⟨hcf,hol,hin,hca,hcl,hcA,hF0,hF1⟩:=hwc;obtain⟨k,rfl⟩:=Int.eq_ofNat_of_zero_le hF0;rw [Int.toNat_natCast] at hcf hol hca;have hS:=hB.2.2.2.2.1;have htl:=hB.2.2.2.2.2.2.1;have hFm:=hB.2.2.2.2.2.2.2;have hH:=hG.fnH hcf;have hr4:=hH.r1;have hwl:(Zv x args).length=Xe (P.funcs.getD k Ze).params:=(Mx x args).trans (Of hca);have hw8:(Zv x args).length≤100000:=by
  have h2:=Um (l:=(P.funcs.getD k Ze).params) (fun j hj=>(hH.pw j hj).2.1);have h3:=hH.pl;omega
 have HFC:=J (Zbl x b vb sb gs args xap xac V.drew (hRF.below (Below.refl _ _).drew) hB.1.2.1.ok (hxa.below hS.low.drew) (by omega) hcA (hB.1.2.1.small hG));rw [hvl,hsl] at HFC;have HCK:=J (fun(U:World) (h1:U.heap[ib]?=some (.cells #[.int .i64 12,.int .i64 d,.int .i64 a,.int .i64 bb,.int .u64 n,.int .i64 (k:Int),.slice xap args.length xac,.slice xop outs.length xoc] 65 (0,0)))=>show(fun V=>V.cell? ⟨ib,5,none⟩=some (.int .i64 (k:Int))∧V.cell? ⟨ib,6,none⟩=some (.slice xap args.length xac)) U from⟨(cR h1 5),(cR h1 6)⟩);have HCALL:=J (fun(w1:World) (hb:Below V.heap.size V w1) (wp:Option Addr) (wc:Nat) (ho:w1.ownsRow V.heap.size 62 1 (.slice wp (Zv x args).length wc) (Zv x args).length (uC (Zv x args)))=>hcall N w1 k (Zv x args) outs wp sp tp wc scc tc sc tr es fnn (hS.grow hb) (fun g hg=>hN g (Nat.le_trans hB.2.2.2.1.size (Nat.le_trans hb.size hg))) (by omega) (by omega) hwl (Og hB.1.2.1.ok args) (Ou ho (by omega)) (by omega));have HR0:=J (show r0=(ev P m [Jj (P.funcs.getD k Ze) (Zv x args) outs] sc tr).bind (Zms P outs [Zp x]) by
  rw [hB.2.2.2.2.2.1,Ot,show Oq P x [] sc tr=.go [Jj (P.funcs.getD k Ze) (Zv (Zp x) args) outs,Zp x] sc tr by unfold Oq; simp [hi,Ma]];exact Uu P m (Jj (P.funcs.getD k Ze) (Zv x args) outs) [] [Zp x] sc tr)
 have HEL:=J (Zjl P m [Jj (P.funcs.getD k Ze) (Zv x args) outs] sc tr);have hibpb:ib≠pb:=Zs hX (show V.heap[pb]?=some (.cells _ 78 (0,0)) from hS.row) (by decide);have HB:=J hB;have HIN:=J hin;have HXO:=J hxo;have HVL:=J hvl;have HI:=J hi;have HG:=J hG;have HNV:=J hNv;have HOL:=J hol;clear hin hcA hS hxa hxo hN hvl hcall hcf hca hH hwl hol hNv hex;clear hB hi hX hG hRF hret hfl hfn;rw [Xk];refine Js ?_;conv=>arg 2; whnf
 refine wp_seq_k fun K hK=>?_;have HK:=J hK;clear hK;refine wp_region_held_drew (S:=fun V=>V.cell? ⟨ib,5,none⟩=some (.int .i64 (k:Int))∧V.cell? ⟨ib,6,none⟩=some (.slice xap args.length xac)) (by kernel_rfl) (G HCK _ (G HX)) (fun hHeld=>?_);refine tT 0 ?_;try simp only [Act.put,zA,zB,zC,zD,zE]
 refine tT 1 ?_;try simp only [Act.put,zA,zB,zC,zD,zE,zF]
 refine tT 2 ?_;try simp only [Act.put,zA,zB,zC,zD,zE,zF]
 refine tT 3 ?_;try simp only [Act.put,zA,zB,zC,zD,zE,zF]
 refine tT 4 ?_;try simp only [Act.put,zA,zB,zC,zD,zE,zF]
 refine tT 5 ?_;try simp only [Act.put,zA,zB,zC,zD,zE,zF]
 refine tT 6 ?_;try simp only [Act.put,zA,zB,zC,zD,zE,zF]
 refine tO 7 fun K hK=>?_;go_simp;refine(G HFC).mono ?_;rintro e w1 ⟨wv,rfl,hwo,hb1⟩;obtain⟨wp,wc,rfl⟩:=Zm hwo;have hb1':Below V.heap.size V w1:=⟨hb1.os,hb1.tape,hb1.output,hb1.size,hb1.block⟩;have HB1:=J hb1';have HX1:=J ((hb1'.block ib (Zd (G HX))).trans (G HX));have HC1:=J (G HCALL w1 hb1' wp wc hwo);clear hb1 hb1' hwo HFC HCALL;refine hK.out _ _ (G HCK _ (G HX1)) (fun hHeld2=>?_);clear hK K;try simp only [Act.put,zA,zB,zC,zD,zE,zF]
 refine tO 8 fun K hK=>?_;go_simp;refine(G HC1).mono ?_;rintro e w2 ⟨lv,rfl,hres,hkp⟩;obtain⟨lp,ln,lc,rfl⟩:∃ lp ln lc,lv=.slice lp ln lc:=by
  revert hres
  cases ev P m [Jj (P.funcs.getD k Ze) (Zv x args) outs] sc tr with
  | done l m' sc' tr'=>intro h; obtain⟨p,c,e⟩:=Zm h.2.2.2.1; exact⟨p,_,c,e⟩
  | trap c m' sc' tr'=>intro h; exact⟨_,_,_,h.2.1⟩
  | spent sc' tr'=>intro h; exact⟨_,_,_,h.1⟩
 have HRES:=J hres;have HKP:=J hkp;have HX2:=J (hkp.row (G HX1) hibpb id (by decide));clear hres hkp HC1;refine hK.out _ _ (G HCK _ (G HX2)) (fun hHeld2=>?_);clear hK K;try simp only [Act.put,zA,zB,zC,zD,zE,zF]
 refine tT 9 ?_;try simp only [Act.put,zA,zB,zC,zD,zE,zF]
 refine wpAnyH_done (by kernel_rfl) ?_ _;refine G HK _ _ ?_;clear HK HCK;have HKW:=J ((G HB).2.2.2.1.trans ((Gq (G HB1)).trans ((G HKP).mono fun _ _ h=>h.elim)));have hres:=G HRES;cases hev:ev P m [Jj (P.funcs.getD k Ze) (Zv x args) outs] sc tr with
 | trap c m' sc' tr' =>
  rw [hev] at hres;obtain⟨hm',hlv,sp',scc',tp',tc',es',fnn',hps⟩:=hres;clear hlv HRES;have o5:=cR hps.row 5;have HA:=J (show Ow P w0 w2 pb b B N (.slice (some ⟨fb,fo,none⟩) P.funcs.length fc) xv F n0 fn o (.slice none 0 0) false r0 from Or.inr ⟨rfl,by
   rw [G HR0,hev];exact⟨hm',rfl,sp',scc',tp',tc',es',fnn',hps⟩⟩)
  clear hps hev;go_wp2_with fail
  refine Yy (Q:=Q0 .ret) (fun s'=>G HRET _ _ _ _ _ _ _ _ _ _ _ _ _ _ _ _ s' (G HA) (G HKW)) _ ?_;rfl
 | spent sc' tr' =>
  rw [hev] at hres;obtain⟨hlv,sp',scc',tp',tc',es',fnn',hps⟩:=hres;clear hlv HRES;have o5:=cR hps.row 5;have HA:=J (show Ow P w0 w2 pb b B N (.slice (some ⟨fb,fo,none⟩) P.funcs.length fc) xv F n0 fn o (.slice none 0 0) false r0 from Or.inr ⟨rfl,by
   rw [G HR0,hev];exact⟨rfl,sp',scc',tp',tc',es',fnn',hps⟩⟩)
  clear hps hev;go_wp2_with fail
  refine Yy (Q:=Q0 .ret) (fun s'=>G HRET _ _ _ _ _ _ _ _ _ _ _ _ _ _ _ _ s' (G HA) (G HKW)) _ ?_;rfl
 | done l m' sc' tr' =>
  rw [hev] at hres;obtain⟨hm',hll,hlb,how,sp',scc',tp',tc',es',fnn',hps⟩:=hres;have hel:=(G HEL).1 l m' sc' tr' hev;obtain⟨lp',lc',elv⟩:=Zm how;injection elv with el1 el2 el3;subst el1 el3;have HLL:=J (show outs.length=l.length by have:=G HOL; omega);have o5:=cR hps.row 5;have i7:=cR (G HX2) 7;have HU:=J (show Ng w2 { x with b:=x.b,i:=x.i+1,v:=Xp x.v (outs.take 0) (l.take 0) } b vb sb gs∧w2.heap[fbx]?=some (.cells box 60 (0,0))∧Xj b pb (fun g=>g=vb∨g ∈ gs) W w2∧w2.ownsRow w1.heap.size 62 1 (.slice lp l.length lc) l.length (uC l)∧Nt w0 w2 pb b N (.slice (some ⟨fb,fo,none⟩) P.funcs.length fc) xv F ((F-m':Nat):Int) (.slice sp' sc'.length scc') sc' 0 0 (.slice tp' tr'.length tc') tr' es' fnn' by
   have hB:=G HB;rw [el2] at how;have hrf:=(hB.2.1.below (G HB1)).kept ⟨_,(hB.2.2.2.2.1.grow (G HB1)).row⟩ (G HKP);refine⟨hrf.nx x.b (x.i+1),(G HKP).row (((G HB1).block fbx (Zd hB.2.2.1)).trans hB.2.2.1) (Zs hB.2.2.1 hB.2.2.2.2.1.row (by decide)) id (by decide),G HKW,how,hps⟩)
  have HLB:=J hlb;have HEV:=J hev;have HEN:=J el2;have hvw1:vb<w1.heap.size:=Nat.lt_of_lt_of_le (Zd (G HB).2.1.v) (G HB1).size;have hl4:l.length≤100000:=by have:=G HOL; have:=hr4; omega
  clear how hps hlb hll hev HRES;rw [el2];clear el2;go_wp2_with fail
  clear i7 o5;go_loopw [126] (fun sk w'=>∃(k:Nat),sk=.int .i64 k∧k≤outs.length∧Ng w' { x with b:=x.b,i:=x.i+1,v:=Xp x.v (outs.take k) (l.take k) } b vb sb gs∧w'.heap[fbx]?=some (.cells box 60 (0,0))∧Xj b pb (fun g=>g=vb∨g ∈ gs) W w'∧w'.ownsRow w1.heap.size 62 1 (.slice lp l.length lc) l.length (uC l)∧Nt w0 w' pb b N (.slice (some ⟨fb,fo,none⟩) P.funcs.length fc) xv F ((F-m':Nat):Int) (.slice sp' sc'.length scc') sc' 0 0 (.slice tp' tr'.length tc') tr' es' fnn') (fun sk _=>outs.length-(intOf sk).toNat)
  case atStart=>exact⟨0,rfl,by omega,G HU⟩
  case round =>
   obtain⟨j,rfl,hj,hinv⟩:=hrel;have hll:=G HLL;by_cases hj2:j<outs.length
   ·
    clear HEX HU HRET;obtain⟨p',c',e1,-,-,hcc⟩:=(G HXO).below hinv.2.2.2.2.low;injection e1 with f1 f2 f3;obtain⟨ob,oo,hsp,hcell⟩:=hcc (by omega);rw [← f1] at hsp;subst hsp;have dd:=hcell j hj2;obtain⟨hx0,hx1⟩:=G HIN j hj2;obtain⟨mm,hm⟩:∃ mm:Nat,outs.getD j 0=mm:=⟨(outs.getD j 0).toNat,by omega⟩;have HNX:=J (show Xp x.v (outs.take (j+1)) (l.take (j+1))=(Xp x.v (outs.take j) (l.take j)).set mm (l.getD j 0) by rw [Rz _ _ _ _ hj2 (by omega),hm,Int.toNat_natCast]);rw [hm] at dd hx1;have hmI:(mm:Int)<(fn.homes.length:Int):=by rw [← G HVL]; exact hx1
    have hml:mm<(Xp x.v (outs.take j) (l.take j)).length:=by rw [Rd]; omega
    have hjl:j<l.length:=by omega
    have hjI:(j:Int)<(l.length:Int):=by omega
    obtain⟨gl,hgl,hglw,hlc⟩:=Nz hinv.2.2.2.1 hjl;subst hgl;have gl0:wr.cell? ⟨gl,j,none⟩=some (.int .u64 (l.getD j 0)):=by rw [hlc]; simp [uC,List.getD,hjl]
    have g0:=hinv.1.loc hml;have z0:=frozen_of_row _ _ mm _ _ hinv.1.v;have HF5:=J (show(Ng (wr.setCell ⟨vb,mm,none⟩ (.int .u64 (l.getD j 0))) { x with b:=x.b,i:=x.i+1,v:=Xp x.v (outs.take (j+1)) (l.take (j+1)) } b vb sb gs∧(wr.setCell ⟨vb,mm,none⟩ (.int .u64 (l.getD j 0))).heap[fbx]?=some (.cells box 60 (0,0))∧Xj b pb (fun g=>g=vb∨g ∈ gs) W (wr.setCell ⟨vb,mm,none⟩ (.int .u64 (l.getD j 0)))∧(wr.setCell ⟨vb,mm,none⟩ (.int .u64 (l.getD j 0))).ownsRow w1.heap.size 62 1 (.slice (some ⟨gl,0,none⟩) l.length lc) l.length (uC l)∧Nt w0 (wr.setCell ⟨vb,mm,none⟩ (.int .u64 (l.getD j 0))) pb b N (.slice (some ⟨fb,fo,none⟩) P.funcs.length fc) xv F ((F-m':Nat):Int) (.slice sp' sc'.length scc') sc' 0 0 (.slice tp' tr'.length tc') tr' es' fnn') by
     have hvs:∀ q,q<wr.heap.size→q≠vb→q ∉ gs→(wr.setCell ⟨vb,mm,none⟩ (.int .u64 (l.getD j 0))).heap[q]?=wr.heap[q]?:=fun q _ h1 _=>heap_setCell_other _ _ _ _ h1;refine⟨?_,(hvs fbx (Zd hinv.2.1) (Zs hinv.2.1 hinv.1.v (by decide)) (fun hm=>by obtain⟨c,hc⟩:=hinv.1.mem fbx hm; exact Zs hinv.2.1 hc (by decide) rfl)).trans hinv.2.1,hinv.2.2.1.trans ⟨rfl,rfl,rfl,by simp,fun g g1 _ g3 _=>hvs g g1 (fun e=>g3 (Or.inl e)) (fun e=>g3 (Or.inr e))⟩,Yq hinv.2.2.2.1 (fun g hg=>heap_setCell_other _ _ _ _ (by show g≠vb; have:=(hinv.2.2.2.1.lt g hg).1; omega)),hinv.2.2.2.2.vars ⟨_,hinv.1.v⟩ hinv.1.mem hinv.1.vB hinv.1.memB (G HNV) rfl rfl rfl (by simp) hvs⟩;rw [G HNX];exact hinv.1.setv mm (l.getD j 0))
    generalize (Xp x.v (outs.take j) (l.take j)).getD mm 0=yd at g0;generalize l.getD j 0=yl at gl0 HF5 HNX;clear f1 f2 f3 hcc hcell hx0 hx1 hm hinv hlc hll HNX;go_wp2;go_roundw
    case rel=>exact⟨j+1,by go_num,by omega,G HF5⟩
    case measure=>simp [intOf]; omega
   ·
    have hjn:j=outs.length:=by omega
    subst hjn;have hto:l.take outs.length=l:=List.take_of_length_le (by omega);rw [List.take_length,hto] at hinv;have HB5:=J (show Se P w0 W wr pb b vb sb fbx gs N (.slice (some ⟨fb,fo,none⟩) P.funcs.length fc) xv F fn box r0 o m' m' { Zp x with v:=Xp x.v outs l } sc' tr' es' sp' tp' scc' tc' fnn' by
     have hB:=G HB;have hi:=G HI;refine⟨⟨hB.1.1,((hB.1.2.1.next (G HG) (by rw [hi]; show(12:Int)<14; decide)).setVs _ (G HLB)),hB.1.2.2⟩,hinv.1,hinv.2.1,hinv.2.2.1,hinv.2.2.2.2,?_,by omega,hm'⟩;rw [G HR0,G HEV];rfl)
    clear hinv hto;go_wp2_with fail
    refine Yy (Q:=Q0 .normal) (fun s'=>G HEX m' _ _ _ _ _ _ _ _ _ _ s' (by omega) (G HB5)) _ ?_;rfl
end Go.Proofs.YteddfaconabobaaGreatDoor
