import Derived.Test.YtkenknfgeoecbaaGreatDoorInI
import Derived.Test.YtkenknfgeoecbaaGreatDoorJ30
namespace Go.Proofs.YtkenknfgeoecbaaGreatDoor
open Go.RowKit
set_option maxHeartbeats 4000000
set_option maxRecDepth 100000
def LiU (w:World)(v:Value)(ws:List Int):Prop:=∃ p cap,v=.slice p ws.length cap∧ws.length≤cap∧ws.length<4611686018427387904∧(0<ws.length→∃ sb so,p=some ⟨sb,so,none⟩∧∀ i,i<ws.length→w.cell? ⟨sb,so+i,none⟩=some (.int .u64 (ws.getD i 0)))
theorem Lx {w w':World}{v:Value}{ws:List Int}(h:LiU w v ws)(hb:Below w.heap.size w w'):LiU w' v ws:=by obtain⟨p,cap,h1,h2,h3,h4⟩:=h;refine⟨p,cap,h1,h2,h3,fun h0=>?_⟩;obtain⟨sb,so,e,hc⟩:=h4 h0;exact⟨sb,so,e,fun i hi=>(hb.cell (p:=⟨sb,so+i,none⟩) (World.block_lt_of_cell? w _ (hc i hi))).trans (hc i hi)⟩
def Km (bs ws:List Int)(k:Nat):List Int:=(List.range k).foldl (fun b k=>stB b (8*k) 8 (ws.getD k 0)) bs
theorem Ca (bs ws:List Int)(k:Nat):Km bs ws (k+1)=stB (Km bs ws k) (8*k) 8 (ws.getD k 0):=by unfold Km;rw [List.range_succ,List.foldl_append];rfl
theorem Zaa (bs ws:List Int):∀ k,(Km bs ws k).length=bs.length
 | 0=>rfl
 | k+1=>by rw [Ca,Zyy,Zaa bs ws k]
structure One (g:Nat)(w w':World):Prop where
 os:w'.os=w.os
 tape:w'.tape=w.tape
 output:w'.output=w.output
 size:w'.heap.size=w.heap.size
 oth:∀ q:Nat,q≠g→w'.heap[q]?=w.heap[q]?
theorem Ydj (q g:Nat)(bs ws:List Int)(wp:Option Addr)(wc:Nat)(w:World)(hr:w.heap[g]?=some (.cells (yC bs).toArray 5 (0,0)))(hw:LiU w (.slice wp ws.length wc) ws)(hle:8*ws.length≤bs.length)(hbl:bs.length≤65536) :
 Calls Tryz.prog 183 #[.pointer (some ⟨q,0,none⟩),.slice (some ⟨g,0,none⟩) bs.length bs.length,.slice wp ws.length wc] w fun e w'=>(∃ v,e=.returned v)∧w'.heap[g]?=some (.cells (yC (Zaz bs ws)).toArray 5 (0,0))∧One g w w':=by
 have HR:=Za hr;have HW:=Za hw;clear hr hw;go_enter Tryz.func183,Tryz.ntmps183
 go_wp2;go_loopw [10] (fun sk w'=>∃(k:Nat),sk=.int .i64 k∧k≤ws.length∧w'.heap[g]?=some (.cells (yC (Km bs ws k)).toArray 5 (0,0))∧One g w w') (fun sk _=>ws.length-(intOf sk).toNat)
 case atStart=>exact⟨0,rfl,by omega,J HR,⟨rfl,rfl,rfl,rfl,fun _ _=>rfl⟩⟩
 case round =>
  obtain⟨k,rfl,hk,hg,hO⟩:=hrel;by_cases hk2:k<ws.length
  ·obtain⟨p',c',e1,-,-,hcc⟩:=J HW;injection e1 with f1 f2 f3;obtain⟨sb,so,hsp,hcell⟩:=hcc (by omega);rw [← f1] at hsp;subst hsp;have hd:=hcell k hk2;have hsg:sb≠g:=fun e=>by
    subst e;have h0:=(Zh (J HR) (so+k)).symm.trans hd;simp [yC] at h0
   have d:wr.cell? ⟨sb,so+k,none⟩=some (.int .u64 (ws.getD k 0)):=(World.cell?_of_block (hO.oth sb hsg)).trans hd;obtain⟨y,hy⟩:∃ y,y=ws.getD k 0:=⟨_,rfl⟩;have hl:=Zaa bs ws k;have HNX:=Za (show Km bs ws (k+1)=stB (Km bs ws k) (8*k) 8 y by rw [Ca,hy]);rw [← hy] at d;clear hy hd f1 f2 f3 hcc hcell hsg;generalize Km bs ws k=cs at hg hl HNX;have HC:=Za (show Calls Tryz.prog 235 #[.slice (some ⟨g,0,none⟩) bs.length bs.length,.int .i64 (8*(k:Int)),.int .i64 8,.int .u64 y] wr (fun e w'=>e=.returned .nilIface∧w'=stw wr g (8*k) y 8) from by rw [← hl]; exact Zuq cs g (8*k) 8 y wr hg rfl (by omega) (by omega));have hwk:IntKind.i64.wrap (8*(k:Int))=8*(k:Int):=by rw [IntKind.wrap_i64]; omega
   have HG:=Za hg;have HO:=Za hO;clear hg hO hl;go_wp2_with fail
   refine(J HC).mono ?_;rintro e w5 ⟨rfl,hw5⟩;have HX:=Za (show w5.heap[g]?=some (.cells (yC (Km bs ws (k+1))).toArray 5 (0,0)) by rw [hw5,J HNX]; exact Zoi wr g (8*k) y cs (J HG) 8);have HO5:=Za (show One g w w5 by have h:=J HO;have hs:=Zut wr g (8*k) y 8;rw [hw5];exact⟨hs.1.trans h.os,hs.2.1.trans h.tape,hs.2.2.trans h.output,(Zkf wr g (8*k) y 8).trans h.size,fun b hb=>(Zpm wr g (8*k) y b hb 8).trans (h.oth b hb)⟩)
   clear hw5 HC HG HO d;go_wp2;go_roundw
   case rel=>exact⟨k+1,by go_num,by omega,J HX,J HO5⟩
   case measure=>simp [intOf]; omega
  ·have hkn:k=ws.length:=by omega
   subst hkn;have HG:=Za hg;have HO:=Za hO;clear hg hO;go_wp2;go_returns;exact⟨⟨_,rfl⟩,J HG,J HO⟩
theorem Tryz.infoU8:(Tryz.prog.info? 5).map (fun i=>(i.zero,i.size,i.bytes))=some (some (.int .u8 0),1,1):=by kernel_rfl
theorem Zir (z:Value)(n:Nat):madeCells #[z] n=(List.replicate n z).toArray:=by
 apply Array.ext'
 apply List.ext_getElem?
 intro i;by_cases h:i<n
 ·simp [madeCells,h,Nat.mod_one]
 ·simp [madeCells,h]
theorem mkU (n:Nat)(hn:n≤1000000)(w:World):(Instr.makeSlice 84 (.int .i64 (n:Int)) (.int .i64 (n:Int))).run Tryz.prog w=.ok (.slice (some ⟨w.heap.size,0,none⟩) n n) (w.alloc (.cells (uC (List.replicate n 0)).toArray 90)):=by obtain⟨ti,hti,hz0,hz1,hz2⟩:=Js Tryz.infoU64;have h:=run_make (P:=Tryz.prog) w 84 90 ti _ Tryz.underlying84 hti hz0 .i64 .i64 (n:Int) (n:Int) (by omega) (Int.le_refl _) (by rw [hz2]; omega) (by omega);rw [hz1,Int.toNat_natCast,Nat.mul_one,show(Value.int IntKind.u64 0).cells=#[.int .u64 0] from rfl,Zir,show List.replicate n (Value.int IntKind.u64 0)=uC (List.replicate n 0) by simp [uC]] at h;exact h
theorem mkY (n:Nat)(hn:n≤1000000)(w:World):(Instr.makeSlice 297 (.int .i64 (n:Int)) (.int .i64 (n:Int))).run Tryz.prog w=.ok (.slice (some ⟨w.heap.size,0,none⟩) n n) (w.alloc (.cells (yC (List.replicate n 0)).toArray 5)):=by obtain⟨ti,hti,hz0,hz1,hz2⟩:=Js Tryz.infoU8;have h:=run_make (P:=Tryz.prog) w 297 5 ti _ Tryz.underlying297 hti hz0 .i64 .i64 (n:Int) (n:Int) (by omega) (Int.le_refl _) (by rw [hz2]; omega) (by omega);rw [hz1,Int.toNat_natCast,Nat.mul_one,show(Value.int IntKind.u8 0).cells=#[.int .u8 0] from rfl,Zir,show List.replicate n (Value.int IntKind.u8 0)=yC (List.replicate n 0) by simp [yC]] at h;exact h
theorem Tryz.infoBy:(Tryz.prog.info? 297).map (fun i=>(i.zero,i.size,i.bytes))=some (some (.slice none 0 0),1,24):=by kernel_rfl
theorem Sx {w:World}{B e size n:Nat}{v:Value}{xs:List Value}(h:w.ownsRow B e size v (n+1) xs):∃ g c,v=.slice (some ⟨g,0,none⟩) (n+1) c:=by
 rcases h.2 with⟨-,e0⟩ | ⟨g,cap,cur,e,-⟩
 ·omega
 ·exact⟨g,cap,e⟩
theorem Zux (gs:List Nat)(ns:List Nat)(g n:Nat)(h:gs.length=ns.length):slC (gs++[g]) (ns++[n])=slC gs ns++[.slice (some ⟨g,0,none⟩) n n]:=by
 unfold slC;rw [List.length_append,List.length_singleton,List.range_succ,List.map_append];congr 1
 ·apply List.map_congr_left
  intro k hk;have hk:=List.mem_range.1 hk;have e1:(gs++[g]).getD k 0=gs.getD k 0:=by simp only [List.getD,List.getElem?_append_left (show k<gs.length by omega)]
  have e2:(ns++[n]).getD k 0=ns.getD k 0:=by simp only [List.getD,List.getElem?_append_left hk]
  rw [e1,e2]
 ·simp [List.getD,← h]
theorem Zuy (ss:List (List Int))(l:List Int)(k:Nat):(ss++[l]).getD k []=if k=ss.length then l else ss.getD k []:=by
 by_cases h:k=ss.length
 ·subst h;simp [List.getD]
 ·rw [if_neg h];by_cases h2:k<ss.length
  ·simp only [List.getD,List.getElem?_append_left h2]
  ·simp [List.getD,show ¬ k<ss.length+1 by omega,h2]
theorem Zcy (gs:List Nat)(g k:Nat):(gs++[g]).getD k 0=if k=gs.length then g else gs.getD k 0:=by
 by_cases h:k=gs.length
 ·subst h;simp [List.getD]
 ·rw [if_neg h];by_cases h2:k<gs.length
  ·simp only [List.getD,List.getElem?_append_left h2]
  ·simp [List.getD,show ¬ k<gs.length+1 by omega,h2]
theorem Zzc {w0 wr w7:World}{x:Ms}{q lo lg bc sc oc g7 c7:Nat}{bp sp op:Option Addr}{gs:List Nat}{B:Nat→Value}{l:List Int}{Z:Obj}(h:Uo w0 wr x q lo wr.heap.size lg bp sp op bc sc oc gs B)
 (hg:((wr.alloc (.cells (yC l).toArray 5 (0,0))).alloc Z).grownBy w7 (Value.slice sp x.s.length sc).ownBlock) (ho:w7.ownsRow lo 297 1 (.slice (some ⟨g7,0,none⟩) (x.s.length+1) c7) (x.s.length+1) (slC gs (x.s.map List.length)++[.slice (some ⟨wr.heap.size,0,none⟩) l.length l.length])) :
 Uo w0 (w7.setCell ⟨q,4,none⟩ (.slice (some ⟨g7,0,none⟩) (x.s.length+1) c7)) { x with s:=x.s++[l] } q lo w7.heap.size lg bp (some ⟨g7,0,none⟩) op bc c7 oc (gs++[wr.heap.size]) B:=by
 obtain⟨r1,b1,z1⟩:=al0 wr (.cells (yC l).toArray 5 (0,0));obtain⟨-,b2,z2⟩:=al0 (wr.alloc (.cells (yC l).toArray 5 (0,0))) Z;have hz:=hg.size;have hold:∀ g,g<wr.heap.size→(Value.slice sp x.s.length sc).ownBlock≠some g→w7.heap[g]?=wr.heap[g]?:=fun g h1 h2=>(hg.block g (by omega) (fun e=>h2 e.symm)).trans ((b2.block g (by omega)).trans (b1.block g h1));have nq:(Value.slice sp x.s.length sc).ownBlock≠some q:=Ra h.slo h.row (by decide);have nl:(Value.slice sp x.s.length sc).ownBlock≠some lg:=Ra h.slo h.loc (by decide);have hq7:=(hold q h.qh nq).trans h.row;have hl7:=(hold lg h.gh nl).trans h.loc;have hn7:w7.heap[wr.heap.size]?=some (.cells (yC l).toArray 5 (0,0)):=by refine(hg.block wr.heap.size (by omega) (fun e=>?_)).trans ((b2.block _ (by omega)).trans r1);have:=(World.ownsRow.lt h.slo wr.heap.size e.symm).2;omega
 have ot:∀ g,g≠q→(w7.setCell ⟨q,4,none⟩ (.slice (some ⟨g7,0,none⟩) (x.s.length+1) c7)).heap[g]?=w7.heap[g]?:=fun g hg=>heap_setCell_other _ _ _ _ hg;have hlen:({ x with s:=x.s++[l] }:Ms).s.length=x.s.length+1:=by simp
 have hq:=h.qh;have hgl:=h.gh;refine⟨h.ql,by omega,h.gl,by omega,h.gq,by simp,?_,(ot _ h.gq).trans hl7,?_,?_,by rw [hlen]; simp [h.len],fun k hk=>?_,fun j k hjk hkl=>?_,h.bls,h.blk,h.ous⟩
 ·rw [hlen];exact heap_setCell_same _ _ 4 _ _ _ hq7
 ·rw [hlen,show({ x with s:=x.s++[l] }:Ms).s.map List.length=x.s.map List.length++[l.length] by simp,Zux _ _ _ _ (by rw [h.len]; simp)];exact Lr ho (fun g e=>ot g (fun e2=>Ra ho hq7 (by decide) (by rw [e,e2])))
 ·rw [hlen];intro g e;exact(World.ownsRow.lt ho g e).2
 ·rw [hlen] at hk;show(w7.setCell _ _).heap[(gs++[wr.heap.size]).getD k 0]?=some (.cells (yC ((x.s++[l]).getD k [])).toArray _ _)∧lo≤(gs++[wr.heap.size]).getD k 0∧(gs++[wr.heap.size]).getD k 0<w7.heap.size;rw [Zuy,Zcy,h.len];by_cases he:k=x.s.length
  ·rw [if_pos he,if_pos he];exact⟨(ot _ (by omega)).trans hn7,by have:=h.ql; omega,by omega⟩
  ·rw [if_neg he,if_neg he];have hk2:k<x.s.length:=by omega
   obtain⟨h1,h2,h3⟩:=h.each k hk2;exact⟨(ot _ (Ns h1 h.row (by decide))).trans ((hold _ h3 (Ra h.slo h1 (by decide))).trans h1),h2,by omega⟩
 ·rw [List.length_append,List.length_singleton] at hkl;rw [Zcy,Zcy];have hj:j≠gs.length:=by omega
  rw [if_neg hj];by_cases he:k=gs.length
  ·rw [if_pos he];exact(h.each j (by have:=h.len; omega)).2.2
  ·rw [if_neg he];exact h.inj j k hjk (by omega)
set_option maxHeartbeats 8000000
set_option maxRecDepth 100000
def Zuz (f:Func)(n:Nat):Code:=(((f.body.map Rx).getD [])[n]?).getD .skip
theorem Yhd (w0 w u:World)(x:Ms)(q lo lg:Nat)(bp op qs:Option Addr)(bc oc cs:Nat)(ns:List Int)(B:Nat→Value)(Q0:Exit→Act→World→Prop)(s0 s1 s2 s3 s4 s5 s6 s8 s9 s10 s11 s12 s13 s14 s15 s16 s17 s18 s19 s20 s21 s25 s26 s27 s28 s29 s30 s31 s32 s33 s34 s35 s36 s37 s38 s39 s40 s41 s42 s43 s44 s45 s46 s47 s48 s49 s50 s51 s52 s53 s54 s55 s56 s57 s58 s59 s60 s61 s62 s63 s64 s65 s66 s67 s68 s69 s70 s71 s72 s73 s74 s75 s76 s77 s78 s79 s80 s81 s82:Value)
 (hx:x.s=[]) (hlo:lo=w.heap.size) (hbw0:Below w0.heap.size w0 w) (hS:Li w0 (.slice qs ns.length cs) ns) (hns:∀ k,k<ns.length→0≤ns.getD k 0∧ns.getD k 0≤8) (hnl:ns.length≤6)
 (hu:Uo w0 u x q lo u.heap.size lg bp none op bc 0 oc [] B) (hbu:Below w.heap.size w u)
 (hexit:∀(w':World) (sp:Option Addr) (sc:Nat) (gs:List Nat),Uo w0 w' { x with s:=(ns.take ns.length).map fun n=>List.replicate (8*n).toNat 0 } q lo w'.heap.size lg bp sp op bc sc oc gs B→Below w.heap.size w w'→∀(u9 u24 u25 u26 u27 u28 u29 u30 u31 u32 u33 u34 u35 u36 u37 u38 u39 u40:Value),Q0 (.exit 0) ⟨List.toArray (s0 :: s1 :: s2 :: s3 :: s4 :: s5 :: s6 :: .pointer (some ⟨q,0,none⟩) :: s8 :: u9 :: s10 :: s11 :: s12 :: s13 :: s14 :: s15 :: s16 :: s17 :: s18 :: s19 :: s20 :: s21 :: .slice qs ns.length cs :: .int .i64 ns.length :: u24 :: u25 :: u26 :: u27 :: u28 :: u29 :: u30 :: u31 :: u32 :: u33 :: u34 :: u35 :: u36 :: u37 :: u38 :: u39 :: u40 :: s41 :: s42 :: s43 :: s44 :: s45 :: s46 :: s47 :: s48 :: s49 :: s50 :: s51 :: s52 :: s53 :: s54 :: s55 :: s56 :: s57 :: s58 :: s59 :: s60 :: s61 :: s62 :: s63 :: s64 :: s65 :: s66 :: s67 :: s68 :: s69 :: s70 :: s71 :: s72 :: s73 :: s74 :: s75 :: s76 :: s77 :: s78 :: s79 :: s80 :: s81 :: s82 :: []),[]⟩ w') :
 Code.wp Tryz.prog (Zuz Tryz.f126 0) Q0 ⟨List.toArray (s0 :: s1 :: s2 :: s3 :: s4 :: s5 :: s6 :: .pointer (some ⟨q,0,none⟩) :: s8 :: s9 :: s10 :: s11 :: s12 :: s13 :: s14 :: s15 :: s16 :: s17 :: s18 :: s19 :: s20 :: s21 :: .slice qs ns.length cs :: .int .i64 ns.length :: .int .i64 0 :: s25 :: s26 :: s27 :: s28 :: s29 :: s30 :: s31 :: s32 :: s33 :: s34 :: s35 :: s36 :: s37 :: s38 :: s39 :: s40 :: s41 :: s42 :: s43 :: s44 :: s45 :: s46 :: s47 :: s48 :: s49 :: s50 :: s51 :: s52 :: s53 :: s54 :: s55 :: s56 :: s57 :: s58 :: s59 :: s60 :: s61 :: s62 :: s63 :: s64 :: s65 :: s66 :: s67 :: s68 :: s69 :: s70 :: s71 :: s72 :: s73 :: s74 :: s75 :: s76 :: s77 :: s78 :: s79 :: s80 :: s81 :: s82 :: []),[]⟩ u:=by
 obtain⟨ti,hti,hty0,hty1,hty2⟩:=Js Tryz.infoBy;have HS0:=Za hS;have HNS:=Za hns;have HU:=Za hu;have HBU:=Za hbu;have HEX:=Za hexit;have HB0:=Za hbw0;have HXS:=Za hx;have HLO:=Za hlo;clear hS hns hu hbu hexit hbw0 hx hlo;refine Zhv (id:=0) ?_;conv=>arg 2; whnf
 go_loopw [24] (fun sk w'=>∃(k:Nat) (sp:Option Addr) (sc:Nat) (gs:List Nat),sk=.int .i64 k∧k≤ns.length∧Uo w0 w' { x with s:=(ns.take k).map fun n=>List.replicate (8*n).toNat 0 } q lo w'.heap.size lg bp sp op bc sc oc gs B∧Below w.heap.size w w') (fun sk _=>ns.length-(intOf sk).toNat)
 case atStart =>
  have e:({ x with s:=(ns.take 0).map fun n=>List.replicate (8*n).toNat 0 }:Ms)=x:=by
   have:=J HXS;cases x
   simp_all
  refine⟨0,none,0,[],rfl,by omega,?_,J HBU⟩;rw [e];exact J HU
 case round =>
  obtain⟨k,sp,sc,gs,rfl,hk,hF,hbw⟩:=hrel;by_cases hk2:k<ns.length
  ·clear HEX HU HBU;obtain⟨p',c',e1,-,-,hcc⟩:=(J HS0).below (Zd (J HB0) hbw (J HB0).size);injection e1 with f1 f2 f3;obtain⟨sb,so,hsp,hcell⟩:=hcc (by omega);rw [← f1] at hsp;subst hsp;have d:=hcell k hk2;obtain⟨hx0,hx1⟩:=J HNS k hk2;have HNX:=Za (show(ns.take (k+1)).map (fun n=>List.replicate (8*n).toNat (0:Int))=(ns.take k).map (fun n=>List.replicate (8*n).toNat (0:Int))++[List.replicate (8*ns.getD k 0).toNat 0] by rw [List.take_add_one,List.getElem?_eq_getElem hk2,List.map_append,Gm ns 0 k hk2]; rfl);obtain⟨n,hn⟩:=Int.eq_ofNat_of_zero_le hx0;rw [hn] at d HNX hx1;have hn8:n≤8:=by omega
   rw [show(8*(n:Int)).toNat=8*n by omega] at HNX;have HMK:=fun V=>mkY (8*n) (by omega) V;rw [show(((8*n:Nat)):Int)=8*(n:Int) by omega] at HMK;have hsl:((ns.take k).map (fun n=>List.replicate (8*n).toNat (0:Int))).length=k:=by simp; omega
   obtain⟨y,hy⟩:∃ y:Ms,y={ x with s:=(ns.take k).map fun n=>List.replicate (8*n).toNat 0 }:=⟨_,rfl⟩;rw [← hy] at hF;have HY:=Za hy;have hyl:y.s.length=k:=by rw [hy]; exact hsl
   have HF:=Za hF;have HBW:=Za hbw;have HS:=Za (show(fun V=>V.heap[q]?=some (.cells #[.slice bp y.fn.blocks.length bc,.int .i64 y.b,.int .i64 y.i,.slice (some ⟨lg,0,none⟩) y.v.length y.v.length,.slice sp y.s.length sc,.slice op y.o.length oc] 328 (0,0))) wr.drew from hF.row);have hwk:IntKind.i64.wrap (8*(n:Int))=8*(n:Int):=by rw [IntKind.wrap_i64]; omega
   have HYL:=Za (show y.s.length≤6 by omega);have HYK:=Za hyl;clear hy hF hbw hx0 hx1 hn hsl f1 f2 f3 hcc hcell hyl;go_upto_region 5 with fail
   clear d;refine Yx (C:=fun V=>V.heap[q]?=some (.cells #[.slice bp y.fn.blocks.length bc,.int .i64 y.b,.int .i64 y.i,.slice (some ⟨lg,0,none⟩) y.v.length y.v.length,.slice sp y.s.length sc,.slice op y.o.length oc] 328 (0,0))) (d:=12) (by kernel_rfl) ?_;refine Ls (i:=0) (v:=?v0) rfl rfl (by kernel_rfl) (by kernel_rfl) (by kernel_rfl) (by kernel_rfl) (by kernel_rfl) (fun _ _ _ h=>h) (Or.inl ⟨by rfl,?hy0⟩) (J HS) ?_;case hy0 =>
    intro V hV;try dsimp only at hV
    clear hV;go_simp;all_goals (with_reducible rfl)
   simp only [Act.put,zA,zB,zC,zD,zE];refine Ls (i:=1) (v:=?v1) rfl rfl (by kernel_rfl) (by kernel_rfl) (by kernel_rfl) (by kernel_rfl) (by kernel_rfl) (fun _ _ _ h=>h) (Or.inl ⟨by rfl,?hy1⟩) (J HS) ?_;case hy1 =>
    intro V hV;try dsimp only at hV
    clear hV;go_simp;all_goals (with_reducible rfl)
   simp only [Act.put,zA,zB,zC,zD,zE,zF];refine Ls (i:=2) (v:=?v2) rfl rfl (by kernel_rfl) (by kernel_rfl) (by kernel_rfl) (by kernel_rfl) (by kernel_rfl) (fun _ _ _ h=>h) (Or.inl ⟨by rfl,?hy2⟩) (J HS) ?_;case hy2 =>
    intro V hV;try dsimp only at hV
    clear hV;go_simp;all_goals (with_reducible rfl)
   simp only [Act.put,zA,zB,zC,zD,zE,zF];refine Ls (i:=3) (v:=?v3) rfl rfl (by kernel_rfl) (by kernel_rfl) (by kernel_rfl) (by kernel_rfl) (by kernel_rfl) (fun _ _ _ h=>h) (Or.inl ⟨by rfl,?hy3⟩) (J HS) ?_;case hy3 =>
    intro V hV;try dsimp only at hV
    clear hV;go_simp;all_goals (with_reducible rfl)
   simp only [Act.put,zA,zB,zC,zD,zE,zF];refine Ls (i:=4) (v:=?v4) rfl rfl (by kernel_rfl) (by kernel_rfl) (by kernel_rfl) (by kernel_rfl) (by kernel_rfl) (fun _ _ _ h=>h) (Or.inl ⟨by rfl,?hy4⟩) (J HS) ?_;case hy4 =>
    intro V hV;try dsimp only at hV
    have c:=cR hV 4;clear hV;go_simp;all_goals (with_reducible rfl)
   simp only [Act.put,zA,zB,zC,zD,zE,zF];refine Ls (i:=5) (v:=?v5) rfl rfl (by kernel_rfl) (by kernel_rfl) (by kernel_rfl) (by kernel_rfl) (by kernel_rfl) (fun _ _ _ h=>h) (Or.inl ⟨by rfl,?hy5⟩) (J HS) ?_;case hy5 =>
    intro V hV;try dsimp only at hV
    clear hV;go_simp;all_goals (with_reducible rfl)
   simp only [Act.put,zA,zB,zC,zD,zE,zF];refine Ls (i:=6) (v:=?v6) rfl rfl (by kernel_rfl) (by kernel_rfl) (by kernel_rfl) (by kernel_rfl) (by kernel_rfl) (fun _ _ _ h=>h) (Or.inl ⟨by rfl,?hy6⟩) (J HS) ?_;case hy6 =>
    intro V hV;try dsimp only at hV
    clear hV;go_simp;all_goals (with_reducible rfl)
   simp only [Act.put,zA,zB,zC,zD,zE,zF];refine Nd (i:=7) (by kernel_rfl) rfl (fun K hK=>?_);go_simp;obtain⟨r1,b1,z1⟩:=al0 wr (.cells (yC (List.replicate (8*n) 0)).toArray 5 (0,0));have hW1:=J HS;have hS1:(fun V=>V.heap[q]?=some (.cells #[.slice bp y.fn.blocks.length bc,.int .i64 y.b,.int .i64 y.i,.slice (some ⟨lg,0,none⟩) y.v.length y.v.length,.slice sp y.s.length sc,.slice op y.o.length oc] 328 (0,0))) (wr.alloc (.cells (yC (List.replicate (8*n) 0)).toArray 5 (0,0))).drew:=(b1.block q (Zi hW1)).trans hW1;refine kO hK (fun _=>hS1) ?_;clear hK K;refine Nd (i:=8) (by kernel_rfl) rfl (fun K hK=>?_);go_simp;obtain⟨r2,b2,z2⟩:=al0 (wr.alloc (.cells (yC (List.replicate (8*n) 0)).toArray 5 (0,0))) (.cells #[.slice (some ⟨wr.heap.size,0,none⟩) (8*n) (8*n)] 297 (0,0));have hS2:(fun V=>V.heap[q]?=some (.cells #[.slice bp y.fn.blocks.length bc,.int .i64 y.b,.int .i64 y.i,.slice (some ⟨lg,0,none⟩) y.v.length y.v.length,.slice sp y.s.length sc,.slice op y.o.length oc] 328 (0,0))) ((wr.alloc (.cells (yC (List.replicate (8*n) 0)).toArray 5 (0,0))).alloc (.cells #[.slice (some ⟨wr.heap.size,0,none⟩) (8*n) (8*n)] 297 (0,0))):=(b2.block q (Zi hS1)).trans hS1;have HOW:=Za (World.ownsRow.alloc (World.ownsRow.alloc (J HF).slo (.cells (yC (List.replicate (8*n) 0)).toArray 5 (0,0))) (.cells #[.slice (some ⟨wr.heap.size,0,none⟩) (8*n) (8*n)] 297 (0,0)));have c9:((wr.alloc (.cells (yC (List.replicate (8*n) 0)).toArray 5 (0,0))).alloc (.cells #[.slice (some ⟨wr.heap.size,0,none⟩) (8*n) (8*n)] 297 (0,0))).cell? ⟨wr.heap.size+1,0,none⟩=some (.slice (some ⟨wr.heap.size,0,none⟩) (8*n) (8*n)):=by rw [z1] at r2; exact(cR r2 0)
   have hz2:((wr.alloc (.cells (yC (List.replicate (8*n) 0)).toArray 5 (0,0))).alloc (.cells #[.slice (some ⟨wr.heap.size,0,none⟩) (8*n) (8*n)] 297 (0,0))).heap.size=wr.heap.size+1+1:=by rw [z2,z1]
   clear r1 b1 z1 r2 b2 z2 hS1;refine kO hK (fun _=>hS2) ?_;clear hK K;have hlow:=(J HF).ql;have hqh:=(J HF).qh;refine Nd (i:=9) (by kernel_rfl) rfl (fun K hK=>?_);refine Zbe rfl (.tmp 32) (.tmp 36) 326 rfl lo 297 ti _ 1 24 Tryz.underlying326 hti hty0 hty1 hty2 rfl (by decide) (.slice sp y.s.length sc) y.s.length (slC gs (y.s.map List.length)) rfl (J HOW) ⟨wr.heap.size+1,0,none⟩ 1 1 [.slice (some ⟨wr.heap.size,0,none⟩) (8*n) (8*n)] rfl rfl (by intro j u hj; match j,hj with | 0,hj=>(simp at hj; subst hj; exact c9)) (by intro u hu; simp at hu; subst hu; rfl) (by have:=J HYL; unfold maxLen; omega) (by have:=J HYL; omega) (by show lo≤((wr.alloc (.cells (yC (List.replicate (8*n) 0)).toArray 5 (0,0))).alloc (.cells #[.slice (some ⟨wr.heap.size,0,none⟩) (8*n) (8*n)] 297 (0,0))).heap.size; omega) ?_;intro v7 w7 hown7 hgr7;have hg7:((wr.alloc (.cells (yC (List.replicate (8*n) 0)).toArray 5 (0,0))).alloc (.cells #[.slice (some ⟨wr.heap.size,0,none⟩) (8*n) (8*n)] 297 (0,0))).grownBy w7 (Value.slice sp y.s.length sc).ownBlock:=⟨hgr7.os,hgr7.tape,hgr7.output,hgr7.size,hgr7.block⟩;have hq7:=(hg7.block q (by omega) (fun e=>absurd e.symm (Ra (J HF).slo (J HF).row (by decide)))).trans hS2;obtain⟨g7,c7,rfl⟩:=Sx hown7;have HX:=Za (Zzc (l:=List.replicate (8*n) 0) (J HF) hg7 (by rw [List.length_replicate]; exact hown7));have HB7:=Za (show Below w.heap.size w w7 by have hb:=J HBW;have hl:=J HLO;have e1:=al0 wr (.cells (yC (List.replicate (8*n) 0)).toArray 5 (0,0));have e2:=al0 (wr.alloc (.cells (yC (List.replicate (8*n) 0)).toArray 5 (0,0))) (.cells #[.slice (some ⟨wr.heap.size,0,none⟩) (8*n) (8*n)] 297 (0,0));have hbz:=hb.size;have h7:=hg7.size;refine⟨hg7.os.trans (e2.2.1.os.trans (e1.2.1.os.trans hb.os)),hg7.tape.trans (e2.2.1.tape.trans (e1.2.1.tape.trans hb.tape)),hg7.output.trans (e2.2.1.output.trans (e1.2.1.output.trans hb.output)),by omega,fun b hq=>?_⟩;exact(hg7.block b (by omega) (fun e=>by have:=(World.ownsRow.lt (J HF).slo b e.symm).1; omega)).trans ((e2.2.1.block b (by rw [e1.2.2]; omega)).trans ((e1.2.1.block b (by omega)).trans (hb.block b hq))))
   have c8:=cR hq7 4;have z8:=frozen_of_row _ _ 4 _ _ hq7;have hlo:=J HLO;refine kO hK (fun _=>hq7) ?_;clear hK K hown7 hgr7 hg7 HOW c9 hz2 hS2;refine Nd (i:=10) (by kernel_rfl) rfl (fun K hK=>?_);go_simp;refine kO hK (fun _=>hq7) ?_;clear hK K;refine Nd (i:=11) (by kernel_rfl) rfl (fun K hK=>?_);go_simp;refine kO hK (fun _=>hq7) ?_;clear hK K;refine Nd (i:=12) (by kernel_rfl) rfl (fun K hK=>?_);go_simp;refine hK.out _ _ (fun h=>absurd h (by simp)) ?_;clear hK K;try simp only [Act.put]
   refine Xw (by kernel_rfl) ?_ _;clear c8 z8 hq7;have hzz:(w7.setCell ⟨q,4,none⟩ (.slice (some ⟨g7,0,none⟩) (y.s.length+1) c7)).heap.size=w7.heap.size:=by simp
   have HX2:=Za (show Uo w0 (w7.setCell ⟨q,4,none⟩ (.slice (some ⟨g7,0,none⟩) (y.s.length+1) c7)) { x with s:=(ns.take (k+1)).map fun n=>List.replicate (8*n).toNat 0 } q lo (w7.setCell ⟨q,4,none⟩ (.slice (some ⟨g7,0,none⟩) (y.s.length+1) c7)).heap.size lg bp (some ⟨g7,0,none⟩) op bc c7 oc (gs++[wr.heap.size]) B by
    rw [hzz,J HNX];have h:=J HX;have e:({ y with s:=y.s++[List.replicate (8*n) (0:Int)] }:Ms)={ x with s:=(ns.take k).map (fun n=>List.replicate (8*n).toNat (0:Int))++[List.replicate (8*n) 0] }:=by rw [J HY]
    rw [e] at h;exact h)
   have HB8:=Za (show Below w.heap.size w (w7.setCell ⟨q,4,none⟩ (.slice (some ⟨g7,0,none⟩) (y.s.length+1) c7)) from⟨(J HB7).os,(J HB7).tape,(J HB7).output,by rw [hzz]; exact(J HB7).size,fun b hb=>(heap_setCell_other _ _ _ _ (by show b≠q; omega)).trans ((J HB7).block b hb)⟩);clear HX HB7 hzz;go_wp2;go_roundw
   case rel=>exact⟨k+1,_,_,_,by go_num,by omega,J HX2,J HB8⟩
   case measure=>simp [intOf]; omega
  ·have hkn:k=ns.length:=by omega
   subst hkn;have HX:=Za (J HEX wr sp sc gs hF hbw);clear hF hbw;go_wp2_with fail
   exact⟨rfl,J HX _ _ _ _ _ _ _ _ _ _ _ _ _ _ _ _ _ _⟩
end Go.Proofs.YtkenknfgeoecbaaGreatDoor
