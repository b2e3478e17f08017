import Derived.Test.YteddfaconabobaaGreatDoorJ22
import Derived.Test.YteddfaconabobaaGreatDoorPk
import Derived.Test.YteddfaconabobaaGreatDoorJ17
import Derived.Deep.RegionWith
import Derived.Deep.RegionHeld3
import Derived.Test.YteddfaconabobaaGreatDoorJ0
namespace Go.Proofs.YteddfaconabobaaGreatDoor
open Go.RowKit
theorem Tryz.infoBy:(Tryz.prog.info? 178).map (fun i=>(i.zero,i.size,i.bytes))=some (some (.slice none 0 0),1,24):=by kernel_rfl
theorem Ob {w:World}{B e size n:Nat}{v:Value}{xs:List Value}(h:w.ownsRow B e size v (n+1) xs):∃ g c,v=.slice (some ⟨g,0,none⟩) (n+1) c:=by
 rcases h.2 with⟨-,e0⟩ | ⟨g,cap,cur,e,-⟩
 ·
  omega
 ·
  exact⟨g,cap,e⟩
theorem Zcp (gs:List Nat)(ns:List Nat)(g n:Nat)(h:gs.length=ns.length):Ib (gs++[g]) (ns++[n])=Ib gs ns++[.slice (some ⟨g,0,none⟩) n n]:=by
 unfold Ib;rw [List.length_append,List.length_singleton,List.range_succ,List.map_append];congr 1
 ·
  apply List.map_congr_left
  intro k hk;have hk:=List.mem_range.1 hk;have e1:(gs++[g]).getD k 0=gs.getD k 0:=by simp only [List.getD,List.getElem?_append_left (show k<gs.length by omega)]
  have e2:(ns++[n]).getD k 0=ns.getD k 0:=by simp only [List.getD,List.getElem?_append_left hk]
  rw [e1,e2]
 ·
  simp [List.getD,← h]
theorem Zcq (ss:List (List Int))(l:List Int)(k:Nat):(ss++[l]).getD k []=if k=ss.length then l else ss.getD k []:=by
 by_cases h:k=ss.length
 ·
  subst h;simp [List.getD]
 ·
  rw [if_neg h];by_cases h2:k<ss.length
  ·
   simp only [List.getD,List.getElem?_append_left h2]
  ·
   simp [List.getD,show ¬ k<ss.length+1 by omega,h2]
theorem Oc (gs:List Nat)(g k:Nat):(gs++[g]).getD k 0=if k=gs.length then g else gs.getD k 0:=by
 by_cases h:k=gs.length
 ·
  subst h;simp [List.getD]
 ·
  rw [if_neg h];by_cases h2:k<gs.length
  ·
   simp only [List.getD,List.getElem?_append_left h2]
  ·
   simp [List.getD,show ¬ k<gs.length+1 by omega,h2]
theorem Zlf {w0 wr w7:World}{x:Xl}{q lo lg bc sc oc g7 c7:Nat}{bp sp op:Option Addr}{gs:List Nat}{B:Nat→Value}{l:List Int}{Z:Obj}(h:Gn w0 wr x q lo wr.heap.size lg bp sp op bc sc oc gs B)
 (hg:((wr.alloc (.cells (yC l).toArray 5 (0,0))).alloc Z).grownBy w7 (Value.slice sp x.s.length sc).ownBlock) (ho:w7.ownsRow lo 178 1 (.slice (some ⟨g7,0,none⟩) (x.s.length+1) c7) (x.s.length+1) (Ib gs (x.s.map List.length)++[.slice (some ⟨wr.heap.size,0,none⟩) l.length l.length])) :
 Gn w0 (w7.setCell ⟨q,4,none⟩ (.slice (some ⟨g7,0,none⟩) (x.s.length+1) c7)) { x with s:=x.s++[l] } q lo w7.heap.size lg bp (some ⟨g7,0,none⟩) op bc c7 oc (gs++[wr.heap.size]) B:=by
 obtain⟨r1,b1,z1⟩:=Yj wr (.cells (yC l).toArray 5 (0,0));obtain⟨-,b2,z2⟩:=Yj (wr.alloc (.cells (yC l).toArray 5 (0,0))) Z;have hz:=hg.size;have hold:∀ g,g<wr.heap.size→(Value.slice sp x.s.length sc).ownBlock≠some g→w7.heap[g]?=wr.heap[g]?:=fun g h1 h2=>(hg.block g (by omega) (fun e=>h2 e.symm)).trans ((b2.block g (by omega)).trans (b1.block g h1));have nq:(Value.slice sp x.s.length sc).ownBlock≠some q:=Xu h.slo h.row (by decide);have nl:(Value.slice sp x.s.length sc).ownBlock≠some lg:=Xu h.slo h.loc (by decide);have hq7:=(hold q h.qh nq).trans h.row;have hl7:=(hold lg h.gh nl).trans h.loc;have hn7:w7.heap[wr.heap.size]?=some (.cells (yC l).toArray 5 (0,0)):=by
  refine(hg.block wr.heap.size (by omega) (fun e=>?_)).trans ((b2.block _ (by omega)).trans r1);have:=(World.ownsRow.lt h.slo wr.heap.size e.symm).2;omega
 have ot:∀ g,g≠q→(w7.setCell ⟨q,4,none⟩ (.slice (some ⟨g7,0,none⟩) (x.s.length+1) c7)).heap[g]?=w7.heap[g]?:=fun g hg=>heap_setCell_other _ _ _ _ hg;have hlen:({ x with s:=x.s++[l] }:Xl).s.length=x.s.length+1:=by simp
 have hq:=h.qh;have hgl:=h.gh;refine⟨h.ql,by omega,h.gl,by omega,h.gq,by simp,?_,(ot _ h.gq).trans hl7,?_,?_,by rw [hlen]; simp [h.len],fun k hk=>?_,fun j k hjk hkl=>?_,h.bls,h.blk,h.ous⟩
 ·
  rw [hlen];exact heap_setCell_same _ _ 4 _ _ _ hq7
 ·
  rw [hlen,show({ x with s:=x.s++[l] }:Xl).s.map List.length=x.s.map List.length++[l.length] by simp,Zcp _ _ _ _ (by rw [h.len]; simp)];exact Yq ho (fun g e=>ot g (fun e2=>Xu ho hq7 (by decide) (by rw [e,e2])))
 ·
  rw [hlen];intro g e;exact(World.ownsRow.lt ho g e).2
 ·
  rw [hlen] at hk;show(w7.setCell _ _).heap[(gs++[wr.heap.size]).getD k 0]?=some (.cells (yC ((x.s++[l]).getD k [])).toArray _ _)∧lo≤(gs++[wr.heap.size]).getD k 0∧(gs++[wr.heap.size]).getD k 0<w7.heap.size;rw [Zcq,Oc,h.len];by_cases he:k=x.s.length
  ·
   rw [if_pos he,if_pos he];exact⟨(ot _ (by omega)).trans hn7,by have:=h.ql; omega,by omega⟩
  ·
   rw [if_neg he,if_neg he];have hk2:k<x.s.length:=by omega
   obtain⟨h1,h2,h3⟩:=h.each k hk2;exact⟨(ot _ (Zs h1 h.row (by decide))).trans ((hold _ h3 (Xu h.slo h1 (by decide))).trans h1),h2,by omega⟩
 ·
  rw [List.length_append,List.length_singleton] at hkl;rw [Oc,Oc];have hj:j≠gs.length:=by omega
  rw [if_neg hj];by_cases he:k=gs.length
  ·
   rw [if_pos he];exact(h.each j (by have:=h.len; omega)).2.2
  ·
   rw [if_neg he];exact h.inj j k hjk (by omega)
def Om (T:Lr)(ga gr gs:Nat):Lr:={ T with pa:=some ⟨ga,0,none⟩,ca:=T.ag.length+2,pr:=some ⟨gr,0,none⟩,cr:=T.rs.length+2,ps:=some ⟨gs,0,none⟩,cs:=T.ss.length+2 }
structure CpT (w:World)(T:Lr)(ga gr gs:Nat):Prop where
 a:Cp w ga T.ag
 r:Cp w gr T.rs
 s:Cp w gs T.ss
structure Zet (T:Lr):Prop where
 a:T.ag.length*8≤140737488351232
 r:T.rs.length*8≤140737488351232
 s:T.ss.length*8≤140737488351232
theorem Tryz.infTbM:(Tryz.prog.info? 25).map (·.size)=some 12:=by kernel_rfl
structure Iw (w:World)(T:Lr)(w':World):Prop where
 low:Below w.heap.size w w'
 box:w'.heap[w.heap.size]?=some (.cells T.box 25 (0,0))
 res:w'.heap[w.heap.size+1]?=some (.cells #[.int .i64 0,.int .i64 0,.int .i64 0,.int .i64 0,.int .i64 0,.slice none 0 0,.slice none 0 0,.slice none 0 0,.int .i64 0,.int .i64 0,.int .i64 0,.bool false] 25 (0,0))
 size:w.heap.size+2≤w'.heap.size
theorem Iw.next {w w' w2:World}{T:Lr}(h:Iw w T w')(hb:Below w'.heap.size w' w2):Iw w T w2:=by
 have hz:=h.size;have hz2:=hb.size;exact⟨Za h.low hb (by omega),(hb.block _ (by omega)).trans h.box,(hb.block _ (by omega)).trans h.res,by omega⟩
theorem Iw.drew {w w':World}{T:Lr}(h:Iw w T w'):Iw w T w'.drew:=⟨h.low.drew,h.box,h.res,h.size⟩
theorem Iw.k5 {w w':World}{T:Lr}(h:Iw w T w'):w'.cell? ⟨w.heap.size,5,none⟩=some (.slice T.pa T.ag.length T.ca):=(cR h.box 5)
theorem Iw.k6 {w w':World}{T:Lr}(h:Iw w T w'):w'.cell? ⟨w.heap.size,6,none⟩=some (.slice T.pr T.rs.length T.cr):=(cR h.box 6)
theorem Iw.k7 {w w':World}{T:Lr}(h:Iw w T w'):w'.cell? ⟨w.heap.size,7,none⟩=some (.slice T.ps T.ss.length T.cs):=(cR h.box 7)
structure CtQ (w:World)(T:Lr)(ga gr gs:Nat)(w':World):Prop where
 low:Below w.heap.size w w'
 box:w'.heap[w.heap.size]?=some (.cells (Om T ga gr gs).box 25 (0,0))
 res:w'.heap[w.heap.size+1]?=some (.cells #[.int .i64 0,.int .i64 0,.int .i64 0,.int .i64 0,.int .i64 0,.slice none 0 0,.slice none 0 0,.slice none 0 0,.int .i64 0,.int .i64 0,.int .i64 0,.bool false] 25 (0,0))
 cp:CpT w' T ga gr gs
 la:w.heap.size+2≤ga
 lr:w.heap.size+2≤gr
 ls:w.heap.size+2≤gs
theorem CtQ.of {w w':World}{T:Lr}{ga gr gs:Nat}(h:Iw w T w')(ha:Cp w' ga T.ag)(hr:Cp w' gr T.rs)(hs:Cp w' gs T.ss)(la:w.heap.size+2≤ga)(lr:w.heap.size+2≤gr)(ls:w.heap.size+2≤gs) :
 CtQ w T ga gr gs (((w'.setCell ⟨w.heap.size,5,none⟩ (.slice (some ⟨ga,0,none⟩) T.ag.length (T.ag.length+2))).setCell ⟨w.heap.size,6,none⟩ (.slice (some ⟨gr,0,none⟩) T.rs.length (T.rs.length+2))).setCell ⟨w.heap.size,7,none⟩ (.slice (some ⟨gs,0,none⟩) T.ss.length (T.ss.length+2))):=by
 have ho:∀ q,q≠w.heap.size→(((w'.setCell ⟨w.heap.size,5,none⟩ (.slice (some ⟨ga,0,none⟩) T.ag.length (T.ag.length+2))).setCell ⟨w.heap.size,6,none⟩ (.slice (some ⟨gr,0,none⟩) T.rs.length (T.rs.length+2))).setCell ⟨w.heap.size,7,none⟩ (.slice (some ⟨gs,0,none⟩) T.ss.length (T.ss.length+2))).heap[q]?=w'.heap[q]?:=fun q hq=>(heap_setCell_other _ _ _ _ hq).trans ((heap_setCell_other _ _ _ _ hq).trans (heap_setCell_other _ _ _ _ hq));refine⟨⟨h.low.os,h.low.tape,h.low.output,by have:=h.low.size; simpa using this,fun q hq=>(ho q (by omega)).trans (h.low.block q hq)⟩,heap_setCell_same _ _ 7 _ _ _ (heap_setCell_same _ _ 6 _ _ _ (heap_setCell_same _ _ 5 _ _ _ h.box)),(ho _ (by omega)).trans h.res,⟨ha.keep (ho _ (by omega)),hr.keep (ho _ (by omega)),hs.keep (ho _ (by omega))⟩,la,lr,ls⟩
theorem Cp.below {w w':World}{g:Nat}{ns:List Int}(h:Cp w g ns)(hb:Below w.heap.size w w'):Cp w' g ns:=h.keep (hb.block g (Zd h.row))
section
variable {P:Program} {ops:Array Oper} {Q:Exit→Act→World→Prop} {md:Region.Mode} {C:World→Prop} {d:Nat}
def Uz (P:Program)(md:Region.Mode)(ops:Array Oper)(Q:Exit→Act→World→Prop)(C:World→Prop)(d:Nat):Nat→Array Bool→Act→World→Prop
 | 0,L,a,w=>Region.ready md ops L=[]∧Q .normal a w
 | n+1,L,a,w=>(Region.ready md ops L=[]→Q .normal a w)∧∀ i ∈ Region.ready md ops L,wpOp P ops Q i (fun a' w'=>((L.setIfInBounds i true).getD d true=false→C w')∧Uz P md ops Q C d n (L.setIfInBounds i true) a' w') a w
theorem Zcb:∀(n:Nat) (L:Array Bool)(a:Act)(w:World),Uz P md ops Q C d n L a w→wpAny P md ops Q n L a w
 | 0,_,_,_,h=>h
 | n+1,_,_,_,h=>⟨h.1,fun i hi=>wpOp_mono (fun a' w' h'=>Zcb n _ a' w' h'.2) (h.2 i hi)⟩
theorem Zdq {i:Nat}{oi od:Oper}{v:Value}(hi:ops[i]?=some oi)(hd:ops[d]?=some od)(hwait:∃ e ∈ od.after,Region.binds md e=true∧e.on=i)
 (hsel:∀(j:Nat) (o:Oper) cs b,ops[j]?=some o→o.op≠.select cs b) (hQ:∀ c a w,Q (.panic c) (a.put oi.dst v) w→Q (.panic c) a w) :
 ∀(n:Nat) (L:Array Bool) (a:Act) (w:World),(∀ j oj,ops[j]?=some oj→j≠i→L.getD j true=false→(∀ e ∈ oj.after,Region.binds md e=true→e.on≠i)→oi.apart ops oj=true) →
  i ∈ Region.ready md ops L→YieldsIf P ops C oi v a→L.getD d true=false→C w→Uz P md ops Q C d n (L.setIfInBounds i true) (a.put oi.dst v) w→Uz P md ops Q C d (n+1) L a w:=by
 intro n;induction n with
 | zero =>
  intro L a w _ hr hy _ hC H;refine⟨fun h=>(by rw [h] at hr; cases hr),fun j hj=>?_⟩;by_cases hji:j=i
  ·
   subst hji;exact hy.wpOp hi hC ⟨fun _=>hC,H⟩
  ·
   have hx:=ready_mono hj hji;rw [H.1] at hx;cases hx
 | succ n ih =>
  intro L a w hfree hr hy hLd hC H;refine⟨fun h=>(by rw [h] at hr; cases hr),fun j hj=>?_⟩;by_cases hji:j=i
  ·
   subst hji;exact hy.wpOp hi hC ⟨fun _=>hC,H⟩
  ·
   have h1:=H.2 j (ready_mono hj hji);obtain⟨hun,oj,hoj,hall⟩:=mem_ready.1 hj;have hiu:=(mem_ready.1 hr).1;have hnot:∀ e ∈ oj.after,Region.binds md e=true→e.on≠i:=fun e he hb hq=>by
    have k1:=hall e he hb;rw [hq] at k1;rcases Nat.lt_or_ge i L.size with h' | h'
    ·
     simp [h'] at hiu k1;rw [hiu] at k1;cases k1
    ·
     simp [Array.getElem?_eq_none h'] at k1
   have hjd:j≠d:=fun e=>by
    subst e;rw [hoj] at hd;injection hd with hd;subst hd;obtain⟨e,he,hb,hq⟩:=hwait;exact hnot e he hb hq
   have h2:=wpOp_putIf hoj (hfree j oj hoj hji hun hnot) (fun cs b=>hsel i oi cs b hi) (fun cs b=>hsel j oj cs b hoj) hQ hy h1;refine wpOp_mono (fun a' w' h3=>?_) h2;have hLj:(L.setIfInBounds j true).getD d true=false:=by rw [getD_set_ne true hjd]; exact hLd
   have hid:i≠d:=fun e=>by
    subst e;rw [hi] at hd;injection hd with hd;subst hd;obtain⟨e,he,hb,hq⟩:=hwait;obtain⟨-,oi',hoi',hall'⟩:=mem_ready.1 hr;rw [hi] at hoi';injection hoi' with hoi';subst hoi';have k1:=hall' e he hb;rw [hq] at k1;rcases Nat.lt_or_ge i L.size with h' | h'
    ·
     simp [h'] at hiu k1;rw [hiu] at k1;cases k1
    ·
     simp [Array.getElem?_eq_none h'] at k1
   have hC':C w':=h3.2.1 (by rw [getD_set_ne true hjd,getD_set_ne true hid]; exact hLd);refine⟨fun _=>hC',ih (L.setIfInBounds j true) a' w' (fun k ok hk hki hku hno=>?_) (ready_mono hr (Ne.symm hji)) h3.1 hLj hC' ?_⟩
   ·
    refine hfree k ok hk hki ?_ hno;by_cases hjk:j=k
    ·
     subst hjk; exact hun
    ·
     rw [getD_set_ne true hjk] at hku; exact hku
   ·
    rw [Array.setIfInBounds_comm _ _ hji];exact h3.2.2
theorem Xm {i:Nat}{oi od:Oper}{v:Value}{n:Nat}{L:Array Bool}{a:Act}{w:World}(hi:ops[i]?=some oi)(hd:ops[d]?=some od)(hw:(od.after.any fun e=>Region.binds md e&&e.on==i)=true)
 (hs:Region.noSelect ops=true) (hf:Region.free md ops L i=true) (hr:(Region.ready md ops L).contains i=true) (hLd:L.getD d true=false)
 (hQ:∀ c a w,Q (.panic c) (a.put oi.dst v) w→Q (.panic c) a w) (hy:YieldsIf P ops C oi v a) (hC:C w)
 (h:Uz P md ops Q C d n (L.setIfInBounds i true) (a.put oi.dst v) w):Uz P md ops Q C d (n+1) L a w :=
 Zdq hi hd (by
  obtain⟨k,hk,hq⟩:=Array.any_eq_true.1 hw;simp only [Bool.and_eq_true,beq_iff_eq] at hq;exact⟨_,Array.getElem_mem hk,hq.1,hq.2⟩) (Region.noSelect_spec hs) hQ n L a w (Region.free_spec hi hf) (by simpa using hr) hy hLd hC h
theorem Xy {i:Nat}{o:Oper}{n:Nat}{L:Array Bool}{a:Act}{w:World}(hr:Region.ready md ops L=[i])(ho:ops[i]?=some o)
 (h:∀ K':Act→World→Prop,_root_.Go.Shut (∀ a w,((L.setIfInBounds i true).getD d true=false→C w)→Uz P md ops Q C d n (L.setIfInBounds i true) a w→K' a w)→if Region.wanted o (yielded ops a.tmps)=true then Oper.wp P o a w K' Q else K' (a.put o.dst undef) w):Uz P md ops Q C d (n+1) L a w:=by
 refine⟨fun h0=>(by rw [hr] at h0; cases h0),fun j hj=>?_⟩;rw [hr] at hj;obtain rfl:j=i:=by simpa using hj
 exact wpOp_step ho (fun K' hK=>h K' (fun a w h1 h2=>hK a w ⟨h1,h2⟩))
theorem Gc {L:Array Bool}{a:Act}{w:World}(hr:Region.ready md ops L=[])(h:Q .normal a w):∀ n,Uz P md ops Q C d n L a w
 | 0=>⟨hr,h⟩
 | _+1=>⟨fun _=>h,by rw [hr]; simp⟩
theorem Xw {id:Nat}{a:Act}{w:World}(hm:P.follows .mixedOrders=true)(h:Uz P .any ops Q C d ops.size (Array.replicate ops.size false) a w.drew):(Code.region id ops true).wp P Q a w :=
 wp_region_any hm (Zcb _ _ _ _ h)
end
set_option maxHeartbeats 8000000 in
set_option maxRecDepth 100000 in
theorem Zcc (T:Lr)(w:World)(hT:TbO w T)(hl:Zet T) :
 Calls Tryz.prog 4 #[.agg T.box] w fun e w'=>∃ ga gr gs,e=.returned (.agg (Om T ga gr gs).box)∧CpT w' T ga gr gs∧w.heap.size≤ga∧w.heap.size≤gr∧w.heap.size≤gs∧Below w.heap.size w w':=by
 obtain⟨r0,r1,hZ,hB⟩:=Kj w (.cells T.box 25 (0,0)) (.cells #[.int .i64 0,.int .i64 0,.int .i64 0,.int .i64 0,.int .i64 0,.slice none 0 0,.slice none 0 0,.slice none 0 0,.int .i64 0,.int .i64 0,.int .i64 0,.bool false] 25 (0,0));have hI0:Iw w T _:=⟨hB,r0,r1,by omega⟩;have HI0:=J hI0;have HFA:=J (fun V (hV:Iw w T V)=>Lc T.ag T.pa T.ca V (hT.a.below hV.low) hl.a);have HFR:=J (fun V (hV:Iw w T V)=>Lc T.rs T.pr T.cr V (hT.r.below hV.low) hl.r);have HFS:=J (fun V (hV:Iw w T V)=>Lc T.ss T.ps T.cs V (hT.s.below hV.low) hl.s);clear r0 r1 hB hT hl hI0;have HBX:=J (show T.box=#[.int .i64 T.r,.int .i64 T.sp,.int .i64 T.lk,.int .i64 T.t0,.int .i64 T.t1,.slice T.pa T.ag.length T.ca,.slice T.pr T.rs.length T.cr,.slice T.ps T.ss.length T.cs,.int .i64 T.al,.int .i64 T.sh,.int .i64 T.br,.bool T.pairs] from rfl);rw [G HBX] at HI0 ⊢;go_enter Tryz.func4,Tryz.ntmps4
 go_wp2_with fail
 generalize World.alloc (World.alloc w _) _=W at HI0 ⊢;have hs0:=(G HI0).drew.size;have HC0:=J (show W.drew.cell? ⟨w.heap.size,5,none⟩=some (.slice T.pa T.ag.length T.ca)∧W.drew.cell? ⟨w.heap.size,6,none⟩=some (.slice T.pr T.rs.length T.cr)∧W.drew.cell? ⟨w.heap.size,7,none⟩=some (.slice T.ps T.ss.length T.cs) from⟨(G HI0).drew.k5,(G HI0).drew.k6,(G HI0).drew.k7⟩);refine Xw (C:=fun V=>V.cell? ⟨w.heap.size,5,none⟩=some (.slice T.pa T.ag.length T.ca)∧V.cell? ⟨w.heap.size,6,none⟩=some (.slice T.pr T.rs.length T.cr)∧V.cell? ⟨w.heap.size,7,none⟩=some (.slice T.ps T.ss.length T.cs)) (d:=10) (by kernel_rfl) ?_;refine Xm (i:=0) (v:=?v0) rfl rfl (by kernel_rfl) (by kernel_rfl) (by kernel_rfl) (by kernel_rfl) (by kernel_rfl) (fun _ _ _ h=>h) (Or.inl ⟨by rfl,?hy0⟩) (G HC0) ?_;case hy0 =>
  intro V hV;obtain⟨e5,e6,e7⟩:=hV;go_simp;all_goals (with_reducible rfl)
 simp only [Act.put,zA,zB,zC,zD,zE];refine Xm (i:=1) (v:=?v1) rfl rfl (by kernel_rfl) (by kernel_rfl) (by kernel_rfl) (by kernel_rfl) (by kernel_rfl) (fun _ _ _ h=>h) (Or.inl ⟨by rfl,?hy1⟩) (G HC0) ?_;case hy1 =>
  intro V hV;obtain⟨e5,e6,e7⟩:=hV;go_simp;all_goals (with_reducible rfl)
 simp only [Act.put,zA,zB,zC,zD,zE,zF];refine Xm (i:=3) (v:=?v3) rfl rfl (by kernel_rfl) (by kernel_rfl) (by kernel_rfl) (by kernel_rfl) (by kernel_rfl) (fun _ _ _ h=>h) (Or.inl ⟨by rfl,?hy3⟩) (G HC0) ?_;case hy3 =>
  intro V hV;obtain⟨e5,e6,e7⟩:=hV;go_simp;all_goals (with_reducible rfl)
 simp only [Act.put,zA,zB,zC,zD,zE,zF];refine Xm (i:=4) (v:=?v4) rfl rfl (by kernel_rfl) (by kernel_rfl) (by kernel_rfl) (by kernel_rfl) (by kernel_rfl) (fun _ _ _ h=>h) (Or.inl ⟨by rfl,?hy4⟩) (G HC0) ?_;case hy4 =>
  intro V hV;obtain⟨e5,e6,e7⟩:=hV;go_simp;all_goals (with_reducible rfl)
 simp only [Act.put,zA,zB,zC,zD,zE,zF];refine Xm (i:=6) (v:=?v6) rfl rfl (by kernel_rfl) (by kernel_rfl) (by kernel_rfl) (by kernel_rfl) (by kernel_rfl) (fun _ _ _ h=>h) (Or.inl ⟨by rfl,?hy6⟩) (G HC0) ?_;case hy6 =>
  intro V hV;obtain⟨e5,e6,e7⟩:=hV;go_simp;all_goals (with_reducible rfl)
 simp only [Act.put,zA,zB,zC,zD,zE,zF];refine Xm (i:=7) (v:=?v7) rfl rfl (by kernel_rfl) (by kernel_rfl) (by kernel_rfl) (by kernel_rfl) (by kernel_rfl) (fun _ _ _ h=>h) (Or.inl ⟨by rfl,?hy7⟩) (G HC0) ?_;case hy7 =>
  intro V hV;obtain⟨e5,e6,e7⟩:=hV;go_simp;all_goals (with_reducible rfl)
 simp only [Act.put,zA,zB,zC,zD,zE,zF];refine Xy (i:=2) (by kernel_rfl) rfl (fun K hK=>?_);go_simp;refine(G HFA _ (G HI0).drew).mono ?_;rintro e w1 ⟨he,hcp,hb⟩;unfold cpV at he;subst he;have hi1:=Iw.next (G HI0).drew hb;have hs1:=hi1.size;have HI1:=J hi1;have HC1:=J hcp;clear hcp hb hi1;refine hK.out _ _ (fun _=>⟨(G HI1).k5,(G HI1).k6,(G HI1).k7⟩) ?_;clear hK K;try simp only [Act.put,zA,zB,zC,zD,zE,zF]
 refine Xm (i:=9) (v:=?v9) rfl rfl (by kernel_rfl) (by kernel_rfl) (by kernel_rfl) (by kernel_rfl) (by kernel_rfl) (fun _ _ _ h=>h) (Or.inl ⟨by rfl,?hy9⟩) ⟨(G HI1).k5,(G HI1).k6,(G HI1).k7⟩ ?_;case hy9 =>
  intro V hV;obtain⟨e5,e6,e7⟩:=hV;go_simp;all_goals (with_reducible rfl)
 simp only [Act.put,zA,zB,zC,zD,zE,zF];refine Xy (i:=5) (by kernel_rfl) rfl (fun K hK=>?_);go_simp;refine(G HFR _ (G HI1)).mono ?_;rintro e w2 ⟨he,hcp,hb⟩;unfold cpV at he;subst he;have hi2:=Iw.next (G HI1) hb;have hs2:=hi2.size;have HI2:=J hi2;have HC2:=J hcp;have HC12:=J ((G HC1).below hb);clear hcp hb hi2;refine hK.out _ _ (fun _=>⟨(G HI2).k5,(G HI2).k6,(G HI2).k7⟩) ?_;clear hK K;try simp only [Act.put,zA,zB,zC,zD,zE,zF]
 refine Xy (i:=8) (by kernel_rfl) rfl (fun K hK=>?_);go_simp;refine(G HFS _ (G HI2)).mono ?_;rintro e w3 ⟨he,hcp,hb⟩;unfold cpV at he;subst he;have hi3:=Iw.next (G HI2) hb;have k35:=hi3.k5;have k36:=hi3.k6;have k37:=hi3.k7;have z5:=frozen_of_row _ _ 5 _ _ hi3.box;have z6:=frozen_of_row _ _ 6 _ _ hi3.box;have z7:=frozen_of_row _ _ 7 _ _ hi3.box;have HQ:=J (CtQ.of (ga:=W.heap.size) hi3 ((G HC12).below hb) ((G HC2).below hb) hcp hs0 hs1 hs2);have HI3:=J hi3;clear hcp hb hi3;refine hK.out _ _ (fun _=>⟨(G HI3).k5,(G HI3).k6,(G HI3).k7⟩) ?_;clear hK K;try simp only [Act.put,zA,zB,zC,zD,zE,zF]
 refine Xy (i:=10) (by kernel_rfl) rfl (fun K hK=>?_);go_simp;refine hK.out _ _ (fun h=>absurd h (by simp)) ?_;clear hK K;try simp only [Act.put,zA,zB,zC,zD,zE,zF]
 refine Xy (i:=11) (by kernel_rfl) rfl (fun K hK=>?_);go_simp;refine hK.out _ _ (fun h=>absurd h (by simp)) ?_;clear hK K;try simp only [Act.put,zA,zB,zC,zD,zE,zF]
 refine Xy (i:=12) (by kernel_rfl) rfl (fun K hK=>?_);go_simp;refine hK.out _ _ (fun h=>absurd h (by simp)) ?_;clear hK K;try simp only [Act.put,zA,zB,zC,zD,zE,zF]
 refine Xy (i:=13) (by kernel_rfl) rfl (fun K hK=>?_);go_simp;refine hK.out _ _ (fun h=>absurd h (by simp)) ?_;clear hK K;try simp only [Act.put,zA,zB,zC,zD,zE,zF]
 refine Xy (i:=14) (by kernel_rfl) rfl (fun K hK=>?_);go_simp;refine hK.out _ _ (fun h=>absurd h (by simp)) ?_;clear hK K;try simp only [Act.put,zA,zB,zC,zD,zE,zF]
 refine Gc (by kernel_rfl) ?_ _;clear k35 k36 k37 z5 z6 z7 HC1 HC2 HC12 HI1 HI2 HI3 HFA HFR HFS HC0;generalize World.setCell (World.setCell (World.setCell w3 _ _) _ _) _ _=Z at HQ ⊢;generalize W.heap.size=ga at HQ ⊢;generalize w1.heap.size=gr at HQ ⊢;generalize w2.heap.size=gs at HQ ⊢;have hQ:=G HQ;have hbx:=hQ.box;have HRES:=J hQ.res;have e0:=cR hbx 0;have e1:=cR hbx 1;have e2:=cR hbx 2;have e3:=cR hbx 3;have e4:=cR hbx 4;have e5:=cR hbx 5;have e6:=cR hbx 6;have e7:=cR hbx 7;have e8:=cR hbx 8;have e9:=cR hbx 9;have e10:=cR hbx 10;have e11:=cR hbx 11;clear hbx hQ;go_wp2_with (refine wpList_store_row rfl 25 _ _ rfl (w.heap.size+1) (Om T ga gr gs).box rfl rfl 25 _ (G HRES) (Tryz.infTbM.trans rfl) rfl (by simp [Value.oneCell',Lr.box,Om]) ?_)
 refine bodyPost_ret (Jp (fn:=Tryz.f4) (q:=2) (uy:=25) rfl _ _ (w.heap.size+1) 25 (Om T ga gr gs).box (0,0) _ rfl (setRow_heap _ _ _ _ _ _ (G HRES)) Tryz.underlying25 rfl (Tryz.infTbM.trans rfl)) rfl ?_;have hQ:=G HQ;have ho:∀ q,q≠w.heap.size+1→(Z.setRow (w.heap.size+1) (Om T ga gr gs).box).heap[q]?=Z.heap[q]?:=fun q hq=>setRow_other _ _ _ _ hq;exact⟨ga,gr,gs,rfl,⟨hQ.cp.a.keep (ho _ (by have:=hQ.la; omega)),hQ.cp.r.keep (ho _ (by have:=hQ.lr; omega)),hQ.cp.s.keep (ho _ (by have:=hQ.ls; omega))⟩,by have:=hQ.la; omega,by have:=hQ.lr; omega,by have:=hQ.ls; omega,Zh hQ.low (by omega)⟩
noncomputable def Ziu (n:Nat):Code:=(((Tryz.f64.body.map Ug).getD [])[n]?).getD .skip
set_option maxHeartbeats 8000000 in
set_option maxRecDepth 100000 in
theorem Zpz (w0 w u:World)(x:Xl)(q lo lg:Nat)(bp op qs:Option Addr)(bc oc cs:Nat)(ns:List Int)(B:Nat→Value)(Q0:Exit→Act→World→Prop)(s0 s1 s2 s3 s4 s5 s6 s8 s9 s10 s11 s12 s13 s14 s15 s16 s17 s18 s19 s20 s21 s25 s26 s27 s28 s29 s30 s31 s32 s33 s34 s35 s36 s37 s38 s39 s40 s41 s42 s43 s44 s45 s46 s47 s48 s49 s50 s51 s52 s53 s54 s55 s56 s57 s58 s59 s60 s61 s62 s63 s64 s65 s66 s67 s68 s69 s70 s71 s72 s73 s74 s75 s76 s77 s78 s79 s80 s81 s82:Value)
 (hx:x.s=[]) (hlo:lo=w.heap.size) (hbw0:Below w0.heap.size w0 w) (hS:Li w0 (.slice qs ns.length cs) ns) (hns:∀ k,k<ns.length→0≤ns.getD k 0∧ns.getD k 0≤8) (hnl:ns.length≤6)
 (hu:Gn w0 u x q lo u.heap.size lg bp none op bc 0 oc [] B) (hbu:Below w.heap.size w u)
 (hexit:∀(w':World) (sp:Option Addr) (sc:Nat) (gs:List Nat),Gn w0 w' { x with s:=(ns.take ns.length).map fun n=>List.replicate (8*n).toNat 0 } q lo w'.heap.size lg bp sp op bc sc oc gs B→Below w.heap.size w w'→∀(u9 u24 u25 u26 u27 u28 u29 u30 u31 u32 u33 u34 u35 u36 u37 u38 u39 u40:Value),Q0 (.exit 0) ⟨List.toArray (s0 :: s1 :: s2 :: s3 :: s4 :: s5 :: s6 :: .pointer (some ⟨q,0,none⟩) :: s8 :: u9 :: s10 :: s11 :: s12 :: s13 :: s14 :: s15 :: s16 :: s17 :: s18 :: s19 :: s20 :: s21 :: .slice qs ns.length cs :: .int .i64 ns.length :: u24 :: u25 :: u26 :: u27 :: u28 :: u29 :: u30 :: u31 :: u32 :: u33 :: u34 :: u35 :: u36 :: u37 :: u38 :: u39 :: u40 :: s41 :: s42 :: s43 :: s44 :: s45 :: s46 :: s47 :: s48 :: s49 :: s50 :: s51 :: s52 :: s53 :: s54 :: s55 :: s56 :: s57 :: s58 :: s59 :: s60 :: s61 :: s62 :: s63 :: s64 :: s65 :: s66 :: s67 :: s68 :: s69 :: s70 :: s71 :: s72 :: s73 :: s74 :: s75 :: s76 :: s77 :: s78 :: s79 :: s80 :: s81 :: s82 :: []),[]⟩ w') :
 Code.wp Tryz.prog (Ziu 0) Q0 ⟨List.toArray (s0 :: s1 :: s2 :: s3 :: s4 :: s5 :: s6 :: .pointer (some ⟨q,0,none⟩) :: s8 :: s9 :: s10 :: s11 :: s12 :: s13 :: s14 :: s15 :: s16 :: s17 :: s18 :: s19 :: s20 :: s21 :: .slice qs ns.length cs :: .int .i64 ns.length :: .int .i64 0 :: s25 :: s26 :: s27 :: s28 :: s29 :: s30 :: s31 :: s32 :: s33 :: s34 :: s35 :: s36 :: s37 :: s38 :: s39 :: s40 :: s41 :: s42 :: s43 :: s44 :: s45 :: s46 :: s47 :: s48 :: s49 :: s50 :: s51 :: s52 :: s53 :: s54 :: s55 :: s56 :: s57 :: s58 :: s59 :: s60 :: s61 :: s62 :: s63 :: s64 :: s65 :: s66 :: s67 :: s68 :: s69 :: s70 :: s71 :: s72 :: s73 :: s74 :: s75 :: s76 :: s77 :: s78 :: s79 :: s80 :: s81 :: s82 :: []),[]⟩ u:=by
 obtain⟨ti,hti,hty0,hty1,hty2⟩:=Xs Tryz.infoBy;have HS0:=J hS;have HNS:=J hns;have HU:=J hu;have HBU:=J hbu;have HEX:=J hexit;have HB0:=J hbw0;have HXS:=J hx;have HLO:=J hlo;clear hS hns hu hbu hexit hbw0 hx hlo;refine Zca (id:=0) ?_;conv=>arg 2; whnf
 go_loopw [24] (fun sk w'=>∃(k:Nat) (sp:Option Addr) (sc:Nat) (gs:List Nat),sk=.int .i64 k∧k≤ns.length∧Gn w0 w' { x with s:=(ns.take k).map fun n=>List.replicate (8*n).toNat 0 } q lo w'.heap.size lg bp sp op bc sc oc gs B∧Below w.heap.size w w') (fun sk _=>ns.length-(intOf sk).toNat)
 case atStart =>
  have e:({ x with s:=(ns.take 0).map fun n=>List.replicate (8*n).toNat 0 }:Xl)=x:=by
   have:=G HXS;cases x
   simp_all
  refine⟨0,none,0,[],rfl,by omega,?_,G HBU⟩;rw [e];exact G HU
 case round =>
  obtain⟨k,sp,sc,gs,rfl,hk,hF,hbw⟩:=hrel;by_cases hk2:k<ns.length
  ·
   clear HEX HU HBU;obtain⟨p',c',e1,-,-,hcc⟩:=(G HS0).below (Za (G HB0) hbw (G HB0).size);injection e1 with f1 f2 f3;obtain⟨sb,so,hsp,hcell⟩:=hcc (by omega);rw [← f1] at hsp;subst hsp;have d:=hcell k hk2;obtain⟨hx0,hx1⟩:=G HNS k hk2;have HNX:=J (show(ns.take (k+1)).map (fun n=>List.replicate (8*n).toNat (0:Int))=(ns.take k).map (fun n=>List.replicate (8*n).toNat (0:Int))++[List.replicate (8*ns.getD k 0).toNat 0] by rw [List.take_add_one,List.getElem?_eq_getElem hk2,List.map_append,Yu ns 0 k hk2]; rfl);obtain⟨n,hn⟩:=Int.eq_ofNat_of_zero_le hx0;rw [hn] at d HNX hx1;have hn8:n≤8:=by omega
   rw [show(8*(n:Int)).toNat=8*n by omega] at HNX;have HMK:=fun V=>mkY (8*n) (by omega) V;rw [show(((8*n:Nat)):Int)=8*(n:Int) by omega] at HMK;have hsl:((ns.take k).map (fun n=>List.replicate (8*n).toNat (0:Int))).length=k:=by simp; omega
   obtain⟨y,hy⟩:∃ y:Xl,y={ x with s:=(ns.take k).map fun n=>List.replicate (8*n).toNat 0 }:=⟨_,rfl⟩;rw [← hy] at hF;have HY:=J hy;have hyl:y.s.length=k:=by rw [hy]; exact hsl
   have HF:=J hF;have HBW:=J hbw;have HS:=J (show(fun V=>V.heap[q]?=some (.cells #[.slice bp y.fn.blocks.length bc,.int .i64 y.b,.int .i64 y.i,.slice (some ⟨lg,0,none⟩) y.v.length y.v.length,.slice sp y.s.length sc,.slice op y.o.length oc] 177 (0,0))) wr.drew from hF.row);have hwk:IntKind.i64.wrap (8*(n:Int))=8*(n:Int):=by rw [IntKind.wrap_i64]; omega
   have HYL:=J (show y.s.length≤6 by omega);have HYK:=J hyl;clear hy hF hbw hx0 hx1 hn hsl f1 f2 f3 hcc hcell hyl;go_upto_region 5 with fail
   clear d;refine Xw (C:=fun V=>V.heap[q]?=some (.cells #[.slice bp y.fn.blocks.length bc,.int .i64 y.b,.int .i64 y.i,.slice (some ⟨lg,0,none⟩) y.v.length y.v.length,.slice sp y.s.length sc,.slice op y.o.length oc] 177 (0,0))) (d:=12) (by kernel_rfl) ?_;refine Xm (i:=0) (v:=?v0) rfl rfl (by kernel_rfl) (by kernel_rfl) (by kernel_rfl) (by kernel_rfl) (by kernel_rfl) (fun _ _ _ h=>h) (Or.inl ⟨by rfl,?hy0⟩) (G HS) ?_;case hy0 =>
    intro V hV;try dsimp only at hV
    clear hV;go_simp;all_goals (with_reducible rfl)
   simp only [Act.put,zA,zB,zC,zD,zE];refine Xm (i:=1) (v:=?v1) rfl rfl (by kernel_rfl) (by kernel_rfl) (by kernel_rfl) (by kernel_rfl) (by kernel_rfl) (fun _ _ _ h=>h) (Or.inl ⟨by rfl,?hy1⟩) (G HS) ?_;case hy1 =>
    intro V hV;try dsimp only at hV
    clear hV;go_simp;all_goals (with_reducible rfl)
   simp only [Act.put,zA,zB,zC,zD,zE,zF];refine Xm (i:=2) (v:=?v2) rfl rfl (by kernel_rfl) (by kernel_rfl) (by kernel_rfl) (by kernel_rfl) (by kernel_rfl) (fun _ _ _ h=>h) (Or.inl ⟨by rfl,?hy2⟩) (G HS) ?_;case hy2 =>
    intro V hV;try dsimp only at hV
    clear hV;go_simp;all_goals (with_reducible rfl)
   simp only [Act.put,zA,zB,zC,zD,zE,zF];refine Xm (i:=3) (v:=?v3) rfl rfl (by kernel_rfl) (by kernel_rfl) (by kernel_rfl) (by kernel_rfl) (by kernel_rfl) (fun _ _ _ h=>h) (Or.inl ⟨by rfl,?hy3⟩) (G HS) ?_;case hy3 =>
    intro V hV;try dsimp only at hV
    clear hV;go_simp;all_goals (with_reducible rfl)
   simp only [Act.put,zA,zB,zC,zD,zE,zF];refine Xm (i:=4) (v:=?v4) rfl rfl (by kernel_rfl) (by kernel_rfl) (by kernel_rfl) (by kernel_rfl) (by kernel_rfl) (fun _ _ _ h=>h) (Or.inl ⟨by rfl,?hy4⟩) (G HS) ?_;case hy4 =>
    intro V hV;try dsimp only at hV
    have c:=cR hV 4;clear hV;go_simp;all_goals (with_reducible rfl)
   simp only [Act.put,zA,zB,zC,zD,zE,zF];refine Xm (i:=5) (v:=?v5) rfl rfl (by kernel_rfl) (by kernel_rfl) (by kernel_rfl) (by kernel_rfl) (by kernel_rfl) (fun _ _ _ h=>h) (Or.inl ⟨by rfl,?hy5⟩) (G HS) ?_;case hy5 =>
    intro V hV;try dsimp only at hV
    clear hV;go_simp;all_goals (with_reducible rfl)
   simp only [Act.put,zA,zB,zC,zD,zE,zF];refine Xm (i:=6) (v:=?v6) rfl rfl (by kernel_rfl) (by kernel_rfl) (by kernel_rfl) (by kernel_rfl) (by kernel_rfl) (fun _ _ _ h=>h) (Or.inl ⟨by rfl,?hy6⟩) (G HS) ?_;case hy6 =>
    intro V hV;try dsimp only at hV
    clear hV;go_simp;all_goals (with_reducible rfl)
   simp only [Act.put,zA,zB,zC,zD,zE,zF];refine Xy (i:=7) (by kernel_rfl) rfl (fun K hK=>?_);go_simp;obtain⟨r1,b1,z1⟩:=Yj wr (.cells (yC (List.replicate (8*n) 0)).toArray 5 (0,0));have hW1:=G HS;have hS1:(fun V=>V.heap[q]?=some (.cells #[.slice bp y.fn.blocks.length bc,.int .i64 y.b,.int .i64 y.i,.slice (some ⟨lg,0,none⟩) y.v.length y.v.length,.slice sp y.s.length sc,.slice op y.o.length oc] 177 (0,0))) (wr.alloc (.cells (yC (List.replicate (8*n) 0)).toArray 5 (0,0))).drew:=(b1.block q (Zd hW1)).trans hW1;refine hK.out _ _ (fun _=>hS1) ?_;clear hK K;try simp only [Act.put,zA,zB,zC,zD,zE,zF]
   refine Xy (i:=8) (by kernel_rfl) rfl (fun K hK=>?_);go_simp;obtain⟨r2,b2,z2⟩:=Yj (wr.alloc (.cells (yC (List.replicate (8*n) 0)).toArray 5 (0,0))) (.cells #[.slice (some ⟨wr.heap.size,0,none⟩) (8*n) (8*n)] 178 (0,0));have hS2:(fun V=>V.heap[q]?=some (.cells #[.slice bp y.fn.blocks.length bc,.int .i64 y.b,.int .i64 y.i,.slice (some ⟨lg,0,none⟩) y.v.length y.v.length,.slice sp y.s.length sc,.slice op y.o.length oc] 177 (0,0))) ((wr.alloc (.cells (yC (List.replicate (8*n) 0)).toArray 5 (0,0))).alloc (.cells #[.slice (some ⟨wr.heap.size,0,none⟩) (8*n) (8*n)] 178 (0,0))):=(b2.block q (Zd hS1)).trans hS1;have HOW:=J (World.ownsRow.alloc (World.ownsRow.alloc (G HF).slo (.cells (yC (List.replicate (8*n) 0)).toArray 5 (0,0))) (.cells #[.slice (some ⟨wr.heap.size,0,none⟩) (8*n) (8*n)] 178 (0,0)));have c9:((wr.alloc (.cells (yC (List.replicate (8*n) 0)).toArray 5 (0,0))).alloc (.cells #[.slice (some ⟨wr.heap.size,0,none⟩) (8*n) (8*n)] 178 (0,0))).cell? ⟨wr.heap.size+1,0,none⟩=some (.slice (some ⟨wr.heap.size,0,none⟩) (8*n) (8*n)):=by rw [z1] at r2; exact(cR r2 0)
   have hz2:((wr.alloc (.cells (yC (List.replicate (8*n) 0)).toArray 5 (0,0))).alloc (.cells #[.slice (some ⟨wr.heap.size,0,none⟩) (8*n) (8*n)] 178 (0,0))).heap.size=wr.heap.size+1+1:=by rw [z2,z1]
   clear r1 b1 z1 r2 b2 z2 hS1;refine hK.out _ _ (fun _=>hS2) ?_;clear hK K;try simp only [Act.put,zA,zB,zC,zD,zE,zF]
   have hlow:=(G HF).ql;have hqh:=(G HF).qh;refine Xy (i:=9) (by kernel_rfl) rfl (fun K hK=>?_);refine Oz rfl (.tmp 32) (.tmp 36) 175 rfl lo 178 ti _ 1 24 Tryz.underlying175 hti hty0 hty1 hty2 rfl (by decide) (.slice sp y.s.length sc) y.s.length (Ib gs (y.s.map List.length)) rfl (G HOW) ⟨wr.heap.size+1,0,none⟩ 1 1 [.slice (some ⟨wr.heap.size,0,none⟩) (8*n) (8*n)] rfl rfl (by intro j u hj; match j,hj with | 0,hj=>(simp at hj; subst hj; exact c9)) (by intro u hu; simp at hu; subst hu; rfl) (by have:=G HYL; unfold maxLen; omega) (by have:=G HYL; omega) (by show lo≤((wr.alloc (.cells (yC (List.replicate (8*n) 0)).toArray 5 (0,0))).alloc (.cells #[.slice (some ⟨wr.heap.size,0,none⟩) (8*n) (8*n)] 178 (0,0))).heap.size; omega) ?_;intro v7 w7 hown7 hgr7;have hg7:((wr.alloc (.cells (yC (List.replicate (8*n) 0)).toArray 5 (0,0))).alloc (.cells #[.slice (some ⟨wr.heap.size,0,none⟩) (8*n) (8*n)] 178 (0,0))).grownBy w7 (Value.slice sp y.s.length sc).ownBlock:=⟨hgr7.os,hgr7.tape,hgr7.output,hgr7.size,hgr7.block⟩;have hq7:=(hg7.block q (by omega) (fun e=>absurd e.symm (Xu (G HF).slo (G HF).row (by decide)))).trans hS2;obtain⟨g7,c7,rfl⟩:=Ob hown7;have HX:=J (Zlf (l:=List.replicate (8*n) 0) (G HF) hg7 (by rw [List.length_replicate]; exact hown7));have HB7:=J (show Below w.heap.size w w7 by
    have hb:=G HBW;have hl:=G HLO;have e1:=Yj wr (.cells (yC (List.replicate (8*n) 0)).toArray 5 (0,0));have e2:=Yj (wr.alloc (.cells (yC (List.replicate (8*n) 0)).toArray 5 (0,0))) (.cells #[.slice (some ⟨wr.heap.size,0,none⟩) (8*n) (8*n)] 178 (0,0));have hbz:=hb.size;have h7:=hg7.size;refine⟨hg7.os.trans (e2.2.1.os.trans (e1.2.1.os.trans hb.os)),hg7.tape.trans (e2.2.1.tape.trans (e1.2.1.tape.trans hb.tape)),hg7.output.trans (e2.2.1.output.trans (e1.2.1.output.trans hb.output)),by omega,fun b hq=>?_⟩;exact(hg7.block b (by omega) (fun e=>by have:=(World.ownsRow.lt (G HF).slo b e.symm).1; omega)).trans ((e2.2.1.block b (by rw [e1.2.2]; omega)).trans ((e1.2.1.block b (by omega)).trans (hb.block b hq))))
   have c8:=cR hq7 4;have z8:=frozen_of_row _ _ 4 _ _ hq7;have hlo:=G HLO;refine hK.out _ _ (fun _=>hq7) ?_;clear hK K hown7 hgr7 hg7 HOW c9 hz2 hS2;try simp only [Act.put,zA,zB,zC,zD,zE,zF]
   refine Xy (i:=10) (by kernel_rfl) rfl (fun K hK=>?_);go_simp;refine hK.out _ _ (fun _=>hq7) ?_;clear hK K;try simp only [Act.put,zA,zB,zC,zD,zE,zF]
   refine Xy (i:=11) (by kernel_rfl) rfl (fun K hK=>?_);go_simp;refine hK.out _ _ (fun _=>hq7) ?_;clear hK K;try simp only [Act.put,zA,zB,zC,zD,zE,zF]
   refine Xy (i:=12) (by kernel_rfl) rfl (fun K hK=>?_);go_simp;refine hK.out _ _ (fun h=>absurd h (by simp)) ?_;clear hK K;try simp only [Act.put]
   refine Gc (by kernel_rfl) ?_ _;clear c8 z8 hq7;have hzz:(w7.setCell ⟨q,4,none⟩ (.slice (some ⟨g7,0,none⟩) (y.s.length+1) c7)).heap.size=w7.heap.size:=by simp
   have HX2:=J (show Gn w0 (w7.setCell ⟨q,4,none⟩ (.slice (some ⟨g7,0,none⟩) (y.s.length+1) c7)) { x with s:=(ns.take (k+1)).map fun n=>List.replicate (8*n).toNat 0 } q lo (w7.setCell ⟨q,4,none⟩ (.slice (some ⟨g7,0,none⟩) (y.s.length+1) c7)).heap.size lg bp (some ⟨g7,0,none⟩) op bc c7 oc (gs++[wr.heap.size]) B by
    rw [hzz,G HNX];have h:=G HX;have e:({ y with s:=y.s++[List.replicate (8*n) (0:Int)] }:Xl)={ x with s:=(ns.take k).map (fun n=>List.replicate (8*n).toNat (0:Int))++[List.replicate (8*n) 0] }:=by rw [G HY]
    rw [e] at h;exact h)
   have HB8:=J (show Below w.heap.size w (w7.setCell ⟨q,4,none⟩ (.slice (some ⟨g7,0,none⟩) (y.s.length+1) c7)) from⟨(G HB7).os,(G HB7).tape,(G HB7).output,by rw [hzz]; exact(G HB7).size,fun b hb=>(heap_setCell_other _ _ _ _ (by show b≠q; omega)).trans ((G HB7).block b hb)⟩);clear HX HB7 hzz;go_wp2;go_roundw
   case rel=>exact⟨k+1,_,_,_,by go_num,by omega,G HX2,G HB8⟩
   case measure=>simp [intOf]; omega
  ·
   have hkn:k=ns.length:=by omega
   subst hkn;have HX:=J (G HEX wr sp sc gs hF hbw);clear hF hbw;go_wp2_with fail
   exact⟨rfl,G HX _ _ _ _ _ _ _ _ _ _ _ _ _ _ _ _ _ _⟩
theorem Od {w:World}{wb wo c j:Nat}{ws:List Int}(h:Lv w (.slice (some ⟨wb,wo,none⟩) ws.length c) ws)(hj:j≤ws.length):Lv w (.slice (if c=j then some ⟨wb,wo,none⟩ else some ⟨wb,wo+j,none⟩) (ws.drop j).length (c-j)) (ws.drop j):=by
 obtain⟨p,cap,e,h2,h3,h4⟩:=h;injection e with e1 e2 e3;subst e1 e3;refine⟨_,_,rfl,by simp; omega,by simp; omega,fun h0=>?_⟩;rw [List.length_drop] at h0;rw [if_neg (by omega)];refine⟨wb,wo+j,rfl,fun i hi=>?_⟩;rw [List.length_drop] at hi;obtain⟨sb,so,e,hc⟩:=h4 (by omega);injection e with e;injection e with e5 e6;subst e5 e6;have:=hc (j+i) (by omega);rw [← Nat.add_assoc] at this;rw [this];simp [List.getD]
def Xe (l:List (Int×Int)):Nat:=(l.map fun p=>if p.1=0 then 1 else p.1.toNat).foldr (·+·) 0
def Ziv (v:List Int)(s:List (List Int))(p:Int×Int):Prop:=0≤p.1∧p.1≤8∧0≤p.2∧(p.1=0→p.2<v.length)∧(p.1≠0→p.2<s.length∧8*p.1≤(s.getD p.2.toNat []).length)
theorem Ziw {bs:List Int}(h:∀ n ∈ bs,0≤n∧n<256)(a k:Nat)(v:Int):∀ n ∈ Sb bs a k v,0≤n∧n<256:=fun n hn=>by
 unfold Sb at hn;obtain⟨i,-,rfl⟩:=List.mem_map.1 hn;unfold upd;split
 ·
  unfold byt; omega
 ·
  exact Dz h i
theorem Kx {bs:List Int}(h:∀ n ∈ bs,0≤n∧n<256)(ws:List Int):∀ k,∀ n ∈ Jz bs ws k,0≤n∧n<256
 | 0=>h
 | k+1=>by rw [Ly]; exact Ziw (Kx h ws k) _ _ _
theorem Zcr {bs:List Int}(h:∀ n ∈ bs,0≤n∧n<256)(ws:List Int):∀ n ∈ Rh bs ws,0≤n∧n<256:=Kx h ws ws.length
theorem Sa (bs ws:List Int):(Rh bs ws).length=bs.length:=Oa bs ws ws.length
theorem Zlg {g lo hi:Nat}{w w':World}(h:Oj g w w')(h1:lo≤g)(h2:g<hi):Sv lo hi w w':=⟨h.os,h.tape,h.output,Nat.le_of_eq h.size.symm,fun q _ hd=>h.oth q (by omega)⟩
theorem Zlh {w0 V V':World}{x:Xl}{q lo hi lg bc sc oc:Nat}{bp sp op:Option Addr}{gs:List Nat}{B:Nat→Value}(h:Gn w0 V x q lo hi lg bp sp op bc sc oc gs B){k:Nat}(hk:k<x.s.length){l:List Int}(hl:l.length=(x.s.getD k []).length)(hg:V'.heap[gs.getD k 0]?=some (.cells (yC l).toArray 5 (0,0)))(hO:Oj (gs.getD k 0) V V'):Gn w0 V' { x with s:=x.s.set k l } q lo hi lg bp sp op bc sc oc gs B:=by
 have hr:=(h.each k hk).1;have hl2:({ x with s:=x.s.set k l }:Xl).s.length=x.s.length:=by simp
 refine⟨h.ql,h.qh,h.gl,h.gh,h.gq,by rw [hO.size]; exact h.hs,?_,(hO.oth _ (Zs h.loc hr (by decide))).trans h.loc,?_,by rw [hl2]; exact h.sb,by rw [hl2]; exact h.len,fun j hj=>?_,h.inj,h.bls,h.blk,h.ous⟩
 ·
  rw [hl2];exact(hO.oth _ (Zs h.row hr (by decide))).trans h.row
 ·
  rw [hl2,show({ x with s:=x.s.set k l }:Xl).s.map List.length=x.s.map List.length from Oo _ _ _ hl];exact Yq h.slo (fun g e=>hO.oth g (Ji h hr (by decide) g e))
 ·
  rw [hl2] at hj;show V'.heap[gs.getD j 0]?=some (.cells (yC ((x.s.set k l).getD j [])).toArray _ _)∧_;rw [Rc _ _ _ _ hk];by_cases he:j=k
  ·
   subst he;rw [if_pos rfl];exact⟨hg,(h.each j hj).2⟩
  ·
   rw [if_neg he];exact⟨(hO.oth _ (Zmr h (by rw [h.len]; exact hj) (by rw [h.len]; exact hk) he)).trans (h.each j hj).1,(h.each j hj).2⟩
set_option maxHeartbeats 8000000 in
set_option maxRecDepth 100000 in
theorem Zqa (w0 w u:World)(x:Xl)(q lo hi lg:Nat)(bp sp op pp wp:Option Addr)(bc sc oc pc wc:Nat)(gs:List Nat)(B:Nat→Value)(ps:List (Int×Int))(ws v0:List Int)(z0:List (List Int))(Q0:Exit→Act→World→Prop)(s0 s2 s3 s4 s5 s6 s8 s9 s10 s11 s12 s13 s14 s15 s16 s17 s18 s19 s20 s21 s22 s23 s24 s25 s26 s27 s28 s29 s30 s31 s32 s33 s34 s35 s36 s37 s38 s39 s40 s41 s45 s46 s47 s48 s49 s50 s51 s52 s53 s54 s55 s56 s57 s58 s59 s60 s61 s62 s63 s64 s65 s66 s67 s68 s69 s70 s71 s72 s73 s74 s75 s76 s77 s78 s79 s80 s81 s82:Value)
 (hlo:w.heap.size≤lo) (hbw0:Below w0.heap.size w0 w) (hS:LS 2 w0 (.slice pp ps.length pc) ps.length (fun k=>Yz (ps.getD k (0,0)))) (hnl:ps.length≤8)
 (hP:∀ k,k<ps.length→Ziv v0 z0 (ps.getD k (0,0))) (hW:Lv w (.slice wp ws.length wc) ws) (hwl:ws.length=Xe ps) (hws:∀ n ∈ ws,0≤n∧n<18446744073709551616) (hsl:∀ l ∈ z0,l.length≤65536)
 (hu:Gn w0 u { x with v:=v0,s:=z0 } q lo hi lg bp sp op bc sc oc gs B) (hbu:Below w.heap.size w u) (hok:IOk { x with v:=v0,s:=z0 })
 (hexit:∀(w':World),Gn w0 w' { x with v:=(Lz ps v0 z0 ws).1,s:=(Lz ps v0 z0 ws).2 } q lo hi lg bp sp op bc sc oc gs B→Sv lo hi u w'→IOk { x with v:=(Lz ps v0 z0 ws).1,s:=(Lz ps v0 z0 ws).2 }→∀(u1 u11 u44 u45 u46 u47 u48 u49 u50 u51 u52 u53 u54 u55 u56 u57 u58 u59 u60 u61 u62 u63 u64 u65 u66 u67 u68 u69 u70 u71 u72 u73 u74 u75 u76 u77 u78 u79 u80 u81:Value),Q0 (.exit 2) ⟨List.toArray (s0 :: u1 :: s2 :: s3 :: s4 :: s5 :: s6 :: .pointer (some ⟨q,0,none⟩) :: s8 :: s9 :: s10 :: u11 :: s12 :: s13 :: s14 :: s15 :: s16 :: s17 :: s18 :: s19 :: s20 :: s21 :: s22 :: s23 :: s24 :: s25 :: s26 :: s27 :: s28 :: s29 :: s30 :: s31 :: s32 :: s33 :: s34 :: s35 :: s36 :: s37 :: s38 :: s39 :: s40 :: s41 :: .slice pp ps.length pc :: .int .i64 ps.length :: u44 :: u45 :: u46 :: u47 :: u48 :: u49 :: u50 :: u51 :: u52 :: u53 :: u54 :: u55 :: u56 :: u57 :: u58 :: u59 :: u60 :: u61 :: u62 :: u63 :: u64 :: u65 :: u66 :: u67 :: u68 :: u69 :: u70 :: u71 :: u72 :: u73 :: u74 :: u75 :: u76 :: u77 :: u78 :: u79 :: u80 :: u81 :: s82 :: []),[]⟩ w') :
 Code.wp Tryz.prog (Ziu 1) Q0 ⟨List.toArray (s0 :: .slice wp ws.length wc :: s2 :: s3 :: s4 :: s5 :: s6 :: .pointer (some ⟨q,0,none⟩) :: s8 :: s9 :: s10 :: s11 :: s12 :: s13 :: s14 :: s15 :: s16 :: s17 :: s18 :: s19 :: s20 :: s21 :: s22 :: s23 :: s24 :: s25 :: s26 :: s27 :: s28 :: s29 :: s30 :: s31 :: s32 :: s33 :: s34 :: s35 :: s36 :: s37 :: s38 :: s39 :: s40 :: s41 :: .slice pp ps.length pc :: .int .i64 ps.length :: .int .i64 0 :: s45 :: s46 :: s47 :: s48 :: s49 :: s50 :: s51 :: s52 :: s53 :: s54 :: s55 :: s56 :: s57 :: s58 :: s59 :: s60 :: s61 :: s62 :: s63 :: s64 :: s65 :: s66 :: s67 :: s68 :: s69 :: s70 :: s71 :: s72 :: s73 :: s74 :: s75 :: s76 :: s77 :: s78 :: s79 :: s80 :: s81 :: s82 :: []),[]⟩ u:=by
 have HS0:=J hS;have HP:=J hP;have HW:=J hW;have HWS:=J hws;have HSL:=J hsl;have HU:=J hu;have HBU:=J hbu;have HOK:=J hok;have HEX:=J hexit;have HB0:=J hbw0;have HWL:=J hwl;clear hS hP hW hws hsl hu hbu hok hexit hbw0 hwl;refine Zca (id:=2) ?_;conv=>arg 2; whnf
 go_loopw [44,1] (fun sk sw w'=>∃(k:Nat) (v:List Int) (s:List (List Int)) (rem:List Int) (rp:Option Addr) (rc:Nat),sk=.int .i64 k∧sw=.slice rp rem.length rc∧k≤ps.length∧Lz ps v0 z0 ws=Lz (ps.drop k) v s rem∧v.length=v0.length∧s.map List.length=z0.map List.length∧Lv w (.slice rp rem.length rc) rem∧rem.length=Xe (ps.drop k)∧(∀ n ∈ rem,0≤n∧n<18446744073709551616)∧Gn w0 w' { x with v:=v,s:=s } q lo hi lg bp sp op bc sc oc gs B∧Sv lo hi u w'∧IOk { x with v:=v,s:=s }) (fun sk _ _=>ps.length-(intOf sk).toNat)
 case atStart=>exact⟨0,v0,z0,ws,wp,wc,rfl,rfl,by omega,rfl,rfl,rfl,G HW,G HWL,G HWS,G HU,Kv _ _ _,G HOK⟩
 case round =>
  obtain⟨k,v,s,rem,rp,rc,rfl,rfl,hk,hpar,hvl,hsl2,hrem,hrl,hrw,hF,hO,hok⟩:=hrel;by_cases hk2:k<ps.length
  ·
   clear HEX HU HW HWS HWL HOK;have hsz:=hO.size;obtain⟨p',c',e1,-,-,hcc⟩:=G HS0;injection e1 with f1 f2 f3;obtain⟨sb,so,hsp,hsb,hcell⟩:=hcc (by omega);rw [← f1] at hsp;subst hsp;have hrg:=hcell k hk2;dsimp only at hrg;have ho:=G HP k hk2;have hdr:ps.drop k=ps.getD k (0,0) :: ps.drop (k+1):=by rw [List.drop_eq_getElem_cons hk2,Yu ps (0,0) k hk2]
   rw [hdr] at hpar hrl;generalize ps.getD k (0,0)=a at hrg ho hpar hrl;obtain⟨a1,a2⟩:=a;have HPAR:=J hpar;have HRL:=J hrl;have HVL:=J hvl;have HSL2:=J hsl2;clear hpar hrl;obtain⟨hw0,hw8,hf0,hov,hos⟩:=ho;simp only at hw0 hw8 hf0 hov hos;obtain⟨nw,rfl⟩:=Int.eq_ofNat_of_zero_le hw0;obtain⟨m,rfl⟩:=Int.eq_ofNat_of_zero_le hf0;have hup:∀ j y,#[Value.int .i64 (nw:Int),.int .i64 (m:Int)].toList[j]?=some y→wr.cell? ⟨sb,so+k*2+j,none⟩=some y:=fun j y hy=>by
    have h1:=hrg j y hy;have h2:=((G HB0).cell (p:=⟨sb,so+k*2+j,none⟩) hsb).trans h1;have h3:=((G HBU).cell (p:=⟨sb,so+k*2+j,none⟩) (World.block_lt_of_cell? _ _ h2)).trans h2;have hb1:=(G HB0).size;have hb2:=(G HBU).size;exact(World.cell?_of_block (hO.oth sb (by omega) (Or.inl (by omega)))).trans h3
   have d0:=hup 0 _ rfl;have d1:=hup 1 _ rfl;rw [Nat.add_zero] at d0;clear hcc hcell hrg f1 f2 f3 hup hdr;obtain⟨hra,hba,-⟩:=Yj wr (.cells #[.int .i64 (nw:Int),.int .i64 (m:Int)] 99 (0,0));have HFR:=J hF;have HO:=J hO;have hhs:=hF.hs;clear hF hO;go_upto_region 10 with fail
   clear d0 d1;generalize World.alloc wr _=V1 at hra hba ⊢;have HF1:=J (Yk (G HFR) hba);have HBA:=J hba;generalize wr.heap.size=ba at hra hhs ⊢;clear hba;by_cases hz:nw=0
   ·
    subst hz;have hml:m<v.length:=by have:=hov rfl; omega
    have hr1:1≤rem.length:=by rw [G HRL]; simp [Xe]
    have hr0:0<rem.length:=hr1;clear hvl hsl2;obtain⟨p2,c2,e2,hcap,hsh,hcells⟩:=hrem;injection e2 with g1 g2 g3;subst g1 g3;obtain⟨wb,wo,hrp,hwc⟩:=hcells (by omega);subst hrp;have hy0:=hwc 0 (by omega);rw [Nat.add_zero] at hy0;obtain⟨y,hy⟩:∃ y,y=rem.getD 0 0:=⟨_,rfl⟩;rw [← hy] at hy0;have HY:=J hy;have HYM:=J (show y ∈ rem by rw [hy]; exact Ku (by omega) 0);have HRD:=J (Od (show Lv w (.slice (some ⟨wb,wo,none⟩) rem.length rc) rem from⟨_,_,rfl,hcap,hsh,fun _=>⟨wb,wo,rfl,hwc⟩⟩) (show 1≤rem.length by omega));have hwbl:wb<w.heap.size:=World.block_lt_of_cell? _ _ hy0;have hbz:=(G HBU).size;have hyr:wr.cell? ⟨wb,wo,none⟩=some (.int .u64 y):=(World.cell?_of_block ((G HO).oth wb (by omega) (Or.inl (by omega)))).trans (((G HBU).cell (p:=⟨wb,wo,none⟩) hwbl).trans hy0);have hyv:V1.cell? ⟨wb,wo,none⟩=some (.int .u64 y):=((G HBA).cell (p:=⟨wb,wo,none⟩) (World.block_lt_of_cell? _ _ hyr)).trans hyr;have a0:=cR hra 0;have HSA:=J (show(fun V=>V.heap[q]?=some (.cells #[.slice bp x.fn.blocks.length bc,.int .i64 x.b,.int .i64 x.i,.slice (some ⟨lg,0,none⟩) v.length v.length,.slice sp s.length sc,.slice op x.o.length oc] 177 (0,0))∧V.heap[ba]?=some (.cells #[.int .i64 0,.int .i64 (m:Int)] 99 (0,0))∧V.cell? ⟨wb,wo,none⟩=some (.int .u64 y)) V1.drew from⟨(G HF1).row,hra,hyv⟩);clear hra hov hos hy hcells hwc hy0 hyr hyv g2;go_upto_region 11 with fail
    clear a0;refine wp_region_held_drew (S:=fun V=>V.heap[q]?=some (.cells #[.slice bp x.fn.blocks.length bc,.int .i64 x.b,.int .i64 x.i,.slice (some ⟨lg,0,none⟩) v.length v.length,.slice sp s.length sc,.slice op x.o.length oc] 177 (0,0))∧V.heap[ba]?=some (.cells #[.int .i64 0,.int .i64 (m:Int)] 99 (0,0))∧V.cell? ⟨wb,wo,none⟩=some (.int .u64 y)) (by kernel_rfl) (G HSA) (fun hHeld=>?_);refine tX 0 ?_;simp only [Act.put,zA,zB,zC,zD,zE];refine tX 1 ?_;simp only [Act.put,zA,zB,zC,zD,zE,zF];refine tX 2 ?_;simp only [Act.put,zA,zB,zC,zD,zE,zF];refine wpAnyH_take (i:=3) (v:=?va3) rfl (by kernel_rfl) (by kernel_rfl) (by kernel_rfl) (fun _ _ _ h=>h) (Or.inl ⟨by rfl,?hya3⟩) (by assumption) ?_;case hya3 =>
     intro V hV;obtain⟨g0,g1,g2⟩:=hV;have c:=cR g0 3;clear g0 g1;go_simp;all_goals (with_reducible rfl)
    simp only [Act.put,zA,zB,zC,zD,zE,zF];refine tX 4 ?_;simp only [Act.put,zA,zB,zC,zD,zE,zF];refine wpAnyH_take (i:=5) (v:=?va5) rfl (by kernel_rfl) (by kernel_rfl) (by kernel_rfl) (fun _ _ _ h=>h) (Or.inl ⟨by rfl,?hya5⟩) (by assumption) ?_;case hya5 =>
     intro V hV;obtain⟨g0,g1,g2⟩:=hV;have c:=cR g1 1;clear g0 g1;go_simp;all_goals (with_reducible rfl)
    simp only [Act.put,zA,zB,zC,zD,zE,zF];refine tX 6 ?_;simp only [Act.put,zA,zB,zC,zD,zE,zF];refine tX 7 ?_;simp only [Act.put,zA,zB,zC,zD,zE,zF];refine tX 8 ?_;simp only [Act.put,zA,zB,zC,zD,zE,zF];refine tX 9 ?_;simp only [Act.put,zA,zB,zC,zD,zE,zF];have hF1:=G HF1;have c9:V1.drew.cell? ⟨lg,m,none⟩=some (.int .u64 (v.getD m 0)):=(Zi hF1.loc m).trans (by simp [uC,List.getD,hml]);have z9:=frozen_of_row _ _ m _ _ hF1.loc;have HX:=J (Zac (Yk hF1 (Below.refl V1.heap.size V1).drew) m y);have HO1:=J (Xi (G HO) (Xi (Jr (lo:=lo) (hi:=hi) (Za (G HBA) (Below.refl V1.heap.size V1).drew (G HBA).size)) (Ur V1.drew m (.int .u64 y) hF1.gl hF1.gh)));have hgq:=hF1.gq;have hgh:=hF1.gh;have hgl:=hF1.gl;clear hF1;refine tO 10 fun K hK=>?_;go_simp;refine hK.out _ _ (show _ from⟨(heap_setCell_other _ _ _ _ (Ne.symm hgq)).trans (G HSA).1,(heap_setCell_other _ _ _ _ (by show ba≠lg; omega)).trans (G HSA).2.1,(World.cell?_of_block (heap_setCell_other _ _ _ _ (by show wb≠lg; omega))).trans (G HSA).2.2⟩) (fun hHeld2=>?_);clear hK K hHeld hHeld2;try simp only [Act.put]
    refine wpAnyH_done (by kernel_rfl) ?_ _;clear c9 z9;go_wp2;go_roundw
    case rel =>
     refine⟨k+1,v.set m y,s,rem.drop 1,if rc=1 then some ⟨wb,wo,none⟩ else some ⟨wb,wo+1,none⟩,rc-1,by go_num,by rw [List.length_drop],by omega,?_,by simpa using G HVL,G HSL2,G HRD,?_,fun n hn=>hrw n (List.mem_of_mem_drop hn),G HX,G HO1,?_⟩
     ·
      rw [G HPAR,G HY];rfl
     ·
      rw [List.length_drop,G HRL];simp [Xe]
     ·
      exact⟨fun n hn=>by
       rcases List.mem_or_eq_of_mem_set hn with h | h
       ·
        exact hok.v n h
       ·
        rw [h]; exact hrw y (G HYM),hok.s⟩
    case measure=>simp [intOf]; omega
   ·
    have hzz:¬ ((nw:Int)=0):=by omega
    have zz:((nw:Int)==0)=false:=by simp; omega
    obtain⟨hsl1,hs8⟩:=hos hzz;have hsll:s.length=z0.length:=by have:=congrArg List.length hsl2; simpa using this
    have hml:m<s.length:=by omega
    obtain⟨s1,hsp1,hsc⟩:=Mm (G HF1) hml;subst hsp1;obtain⟨ga,hga⟩:∃ g,g=gs.getD m 0:=⟨_,rfl⟩;obtain⟨bs,hbs⟩:∃ l,l=s.getD m []:=⟨_,rfl⟩;have hgr:=((G HF1).each m hml).1;have hlo2:=((G HF1).each m hml).2;dsimp only at hsc hgr;have hbl:bs.length=(z0.getD m []).length:=by
     have:=congrArg (fun l=>l.getD m 0) hsl2;simp [List.getD,hml,show m<z0.length by omega] at this;rw [hbs];simp [List.getD,hml,show m<z0.length by omega,this]
    have hb65:bs.length≤65536:=by rw [hbl]; exact G HSL _ (by simp [List.getD,show m<z0.length by omega])
    rw [Int.toNat_natCast,← hbl] at hs8;rw [← hga,← hbs] at hsc hgr;rw [← hga] at hlo2;have HNE:=J (show q≠ga∧ba≠ga∧s1≠ga from⟨Zs (G HF1).row hgr (by decide),Zs hra hgr (by decide),Ji (G HF1) hgr (by decide) s1 rfl⟩);have hrn:nw≤rem.length:=by rw [G HRL]; simp [Xe,hz]
    obtain⟨p2,c2,e2,hcap,hsh,hcells⟩:=hrem;injection e2 with g1 g2 g3;subst g1 g3;obtain⟨wb,wo,hrp,hwc⟩:=hcells (by omega);subst hrp;have hrem2:Lv w (.slice (some ⟨wb,wo,none⟩) rem.length rc) rem:=⟨_,_,rfl,hcap,hsh,fun _=>⟨wb,wo,rfl,hwc⟩⟩;have HRD:=J (Od hrem2 hrn);have hnrc:nw≤rc:=by omega
    have htk:(rem.take nw).length=nw:=by simp; omega
    have hbz:=(G HBU).size;have hLV:Lv V1.drew (.slice (some ⟨wb,wo,none⟩) nw rc) (rem.take nw):=by
     refine⟨_,_,by rw [htk],by omega,by omega,fun _=>⟨wb,wo,rfl,fun i hi=>?_⟩⟩;rw [htk] at hi;have h1:=hwc i (by omega);have hwbl:wb<w.heap.size:=World.block_lt_of_cell? _ _ h1;have h2:wr.cell? ⟨wb,wo+i,none⟩=some (.int .u64 (rem.getD i 0)):=(World.cell?_of_block ((G HO).oth wb (by omega) (Or.inl (by omega)))).trans (((G HBU).cell (p:=⟨wb,wo+i,none⟩) hwbl).trans h1);have h3:V1.cell? ⟨wb,wo+i,none⟩=some (.int .u64 (rem.getD i 0)):=((G HBA).cell (p:=⟨wb,wo+i,none⟩) (World.block_lt_of_cell? _ _ h2)).trans h2;refine h3.trans ?_;simp [List.getD,hi]
    have HFC:=J (show Calls Tryz.prog 81 #[.pointer (some ⟨q,0,none⟩),.slice (some ⟨ga,0,none⟩) bs.length bs.length,.slice (some ⟨wb,wo,none⟩) nw rc] V1.drew (fun e w'=>(∃ v,e=.returned v)∧w'.heap[ga]?=some (.cells (yC (Rh bs (rem.take nw))).toArray 5 (0,0))∧Oj ga V1.drew w') from by
     have h:=Znp q ga bs (rem.take nw) (some ⟨wb,wo,none⟩) rc V1.drew hgr (by rw [htk]; exact hLV) (by rw [htk]; omega) hb65;rw [htk] at h;exact h)
    have a0:=cR hra 0;have HSB:=J (show(fun V=>V.heap[q]?=some (.cells #[.slice bp x.fn.blocks.length bc,.int .i64 x.b,.int .i64 x.i,.slice (some ⟨lg,0,none⟩) v.length v.length,.slice (some ⟨s1,0,none⟩) s.length sc,.slice op x.o.length oc] 177 (0,0))∧V.heap[ba]?=some (.cells #[.int .i64 (nw:Int),.int .i64 (m:Int)] 99 (0,0))∧V.cell? ⟨s1,m,none⟩=some (.slice (some ⟨ga,0,none⟩) bs.length bs.length)) V1.drew from⟨(G HF1).row,hra,hsc⟩);have HGA:=J hga;have HBS:=J hbs.symm;have HGL:=J hlo2;have HBY:=J (show ∀ n ∈ bs,0≤n∧n<256 from fun n hn=>hok.s bs (by show bs ∈ s; rw [hbs]; simp [List.getD,hml]) n hn);clear hra hov hos hcells hwc g2 hrem2 htk hLV hgr hsc hga hbs hlo2 hbl hsll hsl1 hsl2 hvl;go_upto_region 13 with fail
    clear a0;refine wp_region_held_drew (S:=fun V=>V.heap[q]?=some (.cells #[.slice bp x.fn.blocks.length bc,.int .i64 x.b,.int .i64 x.i,.slice (some ⟨lg,0,none⟩) v.length v.length,.slice (some ⟨s1,0,none⟩) s.length sc,.slice op x.o.length oc] 177 (0,0))∧V.heap[ba]?=some (.cells #[.int .i64 (nw:Int),.int .i64 (m:Int)] 99 (0,0))∧V.cell? ⟨s1,m,none⟩=some (.slice (some ⟨ga,0,none⟩) bs.length bs.length)) (by kernel_rfl) (G HSB) (fun hHeld=>?_);refine tX 0 ?_;simp only [Act.put,zA,zB,zC,zD,zE];refine tX 1 ?_;simp only [Act.put,zA,zB,zC,zD,zE,zF];refine tX 2 ?_;simp only [Act.put,zA,zB,zC,zD,zE,zF];refine tX 3 ?_;simp only [Act.put,zA,zB,zC,zD,zE,zF];refine wpAnyH_take (i:=4) (v:=?vb4) rfl (by kernel_rfl) (by kernel_rfl) (by kernel_rfl) (fun _ _ _ h=>h) (Or.inl ⟨by rfl,?hyb4⟩) (by assumption) ?_;case hyb4 =>
     intro V hV;obtain⟨g0,g1,g2⟩:=hV;have c:=cR g0 4;clear g0 g1;go_simp;all_goals (with_reducible rfl)
    simp only [Act.put,zA,zB,zC,zD,zE,zF];refine tX 5 ?_;simp only [Act.put,zA,zB,zC,zD,zE,zF];refine wpAnyH_take (i:=6) (v:=?vb6) rfl (by kernel_rfl) (by kernel_rfl) (by kernel_rfl) (fun _ _ _ h=>h) (Or.inl ⟨by rfl,?hyb6⟩) (by assumption) ?_;case hyb6 =>
     intro V hV;obtain⟨g0,g1,g2⟩:=hV;have c:=cR g1 1;clear g0 g1;go_simp;all_goals (with_reducible rfl)
    simp only [Act.put,zA,zB,zC,zD,zE,zF];refine tX 7 ?_;simp only [Act.put,zA,zB,zC,zD,zE,zF];refine tX 8 ?_;simp only [Act.put,zA,zB,zC,zD,zE,zF];refine tX 9 ?_;simp only [Act.put,zA,zB,zC,zD,zE,zF];refine tX 10 ?_;simp only [Act.put,zA,zB,zC,zD,zE,zF];refine wpAnyH_take (i:=11) (v:=?vb11) rfl (by kernel_rfl) (by kernel_rfl) (by kernel_rfl) (fun _ _ _ h=>h) (Or.inl ⟨by rfl,?hyb11⟩) (by assumption) ?_;case hyb11 =>
     intro V hV;obtain⟨g0,g1,g2⟩:=hV;have c:=cR g1 0;clear g0 g1;go_simp;all_goals (with_reducible rfl)
    simp only [Act.put,zA,zB,zC,zD,zE,zF];refine tX 12 ?_;simp only [Act.put,zA,zB,zC,zD,zE,zF];refine tO 13 fun K hK=>?_;go_simp;refine(G HFC).mono ?_;rintro e w5 ⟨⟨xv,rfl⟩,hg5,hO5⟩;have hne:=G HNE;have HX:=J (show Gn w0 w5 { x with v:=v,s:=s.set m (Rh bs (rem.take nw)) } q lo hi lg bp (some ⟨s1,0,none⟩) op bc sc oc gs B from Zlh (Yk (G HF1) (Below.refl V1.heap.size V1).drew) hml (by rw [G HBS]; exact Sa _ _) (by rw [← G HGA]; exact hg5) (by rw [← G HGA]; exact hO5));have HO1:=J (Xi (G HO) (Xi (Jr (lo:=lo) (hi:=hi) (Za (G HBA) (Below.refl V1.heap.size V1).drew (G HBA).size)) (Zlg hO5 (G HGL).1 (G HGL).2)));have hS5:(fun V=>V.heap[q]?=some (.cells #[.slice bp x.fn.blocks.length bc,.int .i64 x.b,.int .i64 x.i,.slice (some ⟨lg,0,none⟩) v.length v.length,.slice (some ⟨s1,0,none⟩) s.length sc,.slice op x.o.length oc] 177 (0,0))∧V.heap[ba]?=some (.cells #[.int .i64 (nw:Int),.int .i64 (m:Int)] 99 (0,0))∧V.cell? ⟨s1,m,none⟩=some (.slice (some ⟨ga,0,none⟩) bs.length bs.length)) w5:=⟨(hO5.oth q hne.1).trans (G HSB).1,(hO5.oth ba hne.2.1).trans (G HSB).2.1,(World.cell?_of_block (hO5.oth s1 hne.2.2)).trans (G HSB).2.2⟩;have b0:=cR hS5.2.1 0;refine hK.out _ _ hS5 (fun hHeld2=>?_);clear hK K hHeld hHeld2 hS5 hg5 hO5 hne;try simp only [Act.put,zA,zB,zC,zD,zE,zF]
    refine wpAnyH_done (by kernel_rfl) ?_ _;go_wp2;go_roundw
    case rel =>
     refine⟨k+1,v,s.set m (Rh bs (rem.take nw)),rem.drop nw,if rc=nw then some ⟨wb,wo,none⟩ else some ⟨wb,wo+nw,none⟩,rc-nw,by go_num,by rw [List.length_drop],by omega,?_,G HVL,?_,G HRD,?_,fun n hn=>hrw n (List.mem_of_mem_drop hn),G HX,G HO1,?_⟩
     ·
      rw [G HPAR,← G HBS];show(if (nw:Int)=0 then _ else _)=_;rw [if_neg (by omega)];simp
     ·
      rw [Oo _ _ _ (by rw [G HBS]; exact Sa _ _)]; exact G HSL2
     ·
      rw [List.length_drop,G HRL];simp [Xe,hz]
     ·
      exact⟨hok.v,fun l hl n hn=>by
       rcases List.mem_or_eq_of_mem_set hl with h | h
       ·
        exact hok.s l h n hn
       ·
        rw [h] at hn; exact Zcr (G HBY) _ n hn⟩
    case measure=>simp [intOf]; omega
  ·
   have hkn:k=ps.length:=by omega
   subst hkn;rw [List.drop_length] at hpar;have HX:=J (G HEX wr (by rw [hpar]; exact hF) hO (by rw [hpar]; exact hok));clear hF hO;go_wp2_with fail
   exact⟨rfl,G HX _ _ _ _ _ _ _ _ _ _ _ _ _ _ _ _ _ _ _ _ _ _ _ _ _ _ _ _ _ _ _ _ _ _ _ _ _ _ _ _⟩
end Go.Proofs.YteddfaconabobaaGreatDoor
