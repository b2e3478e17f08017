import Derived.Test.YteddfaconabobaaGreatDoorPk
import Derived.Test.YteddfaconabobaaGreatDoorJ16
import Derived.Deep.RegionWith
import Derived.Deep.RegionHeld3
import Derived.Test.YteddfaconabobaaGreatDoorJ20
import Derived.Test.YteddfaconabobaaGreatDoorJ0
namespace Go.Proofs.YteddfaconabobaaGreatDoor
open Go.RowKit
def On (T:Lr)(ga gr gs:Nat):Lr:={ T with pa:=some ⟨ga,0,none⟩,ca:=T.ag.length+2,pr:=some ⟨gr,0,none⟩,cr:=T.rs.length+2,ps:=some ⟨gs,0,none⟩,cs:=T.ss.length+2 }
structure CpT (w:World)(T:Lr)(ga gr gs:Nat):Prop where
 a:Cp w ga T.ag
 r:Cp w gr T.rs
 s:Cp w gs T.ss
structure Zeu (T:Lr):Prop where
 a:T.ag.length*8≤140737488351232
 r:T.rs.length*8≤140737488351232
 s:T.ss.length*8≤140737488351232
theorem Tryz.infTbM:(Tryz.prog.info? 25).map (·.size)=some 12:=by kernel_rfl
structure Ix (w:World)(T:Lr)(w':World):Prop where
 low:Below w.heap.size w w'
 box:w'.heap[w.heap.size]?=some (.cells T.box 25 (0,0))
 res:w'.heap[w.heap.size+1]?=some (.cells #[.int .i64 0,.int .i64 0,.int .i64 0,.int .i64 0,.int .i64 0,.slice none 0 0,.slice none 0 0,.slice none 0 0,.int .i64 0,.int .i64 0,.int .i64 0,.bool false] 25 (0,0))
 size:w.heap.size+2≤w'.heap.size
theorem Ix.next {w w' w2:World}{T:Lr}(h:Ix w T w')(hb:Below w'.heap.size w' w2):Ix w T w2:=by
 have hz:=h.size;have hz2:=hb.size;exact⟨Za h.low hb (by omega),(hb.block _ (by omega)).trans h.box,(hb.block _ (by omega)).trans h.res,by omega⟩
theorem Ix.drew {w w':World}{T:Lr}(h:Ix w T w'):Ix w T w'.drew:=⟨h.low.drew,h.box,h.res,h.size⟩
theorem Ix.k5 {w w':World}{T:Lr}(h:Ix w T w'):w'.cell? ⟨w.heap.size,5,none⟩=some (.slice T.pa T.ag.length T.ca):=(cR h.box 5)
theorem Ix.k6 {w w':World}{T:Lr}(h:Ix w T w'):w'.cell? ⟨w.heap.size,6,none⟩=some (.slice T.pr T.rs.length T.cr):=(cR h.box 6)
theorem Ix.k7 {w w':World}{T:Lr}(h:Ix w T w'):w'.cell? ⟨w.heap.size,7,none⟩=some (.slice T.ps T.ss.length T.cs):=(cR h.box 7)
structure CtQ (w:World)(T:Lr)(ga gr gs:Nat)(w':World):Prop where
 low:Below w.heap.size w w'
 box:w'.heap[w.heap.size]?=some (.cells (On T ga gr gs).box 25 (0,0))
 res:w'.heap[w.heap.size+1]?=some (.cells #[.int .i64 0,.int .i64 0,.int .i64 0,.int .i64 0,.int .i64 0,.slice none 0 0,.slice none 0 0,.slice none 0 0,.int .i64 0,.int .i64 0,.int .i64 0,.bool false] 25 (0,0))
 cp:CpT w' T ga gr gs
 la:w.heap.size+2≤ga
 lr:w.heap.size+2≤gr
 ls:w.heap.size+2≤gs
theorem CtQ.of {w w':World}{T:Lr}{ga gr gs:Nat}(h:Ix w T w')(ha:Cp w' ga T.ag)(hr:Cp w' gr T.rs)(hs:Cp w' gs T.ss)(la:w.heap.size+2≤ga)(lr:w.heap.size+2≤gr)(ls:w.heap.size+2≤gs) :
 CtQ w T ga gr gs (((w'.setCell ⟨w.heap.size,5,none⟩ (.slice (some ⟨ga,0,none⟩) T.ag.length (T.ag.length+2))).setCell ⟨w.heap.size,6,none⟩ (.slice (some ⟨gr,0,none⟩) T.rs.length (T.rs.length+2))).setCell ⟨w.heap.size,7,none⟩ (.slice (some ⟨gs,0,none⟩) T.ss.length (T.ss.length+2))):=by
 have ho:∀ q,q≠w.heap.size→(((w'.setCell ⟨w.heap.size,5,none⟩ (.slice (some ⟨ga,0,none⟩) T.ag.length (T.ag.length+2))).setCell ⟨w.heap.size,6,none⟩ (.slice (some ⟨gr,0,none⟩) T.rs.length (T.rs.length+2))).setCell ⟨w.heap.size,7,none⟩ (.slice (some ⟨gs,0,none⟩) T.ss.length (T.ss.length+2))).heap[q]?=w'.heap[q]?:=fun q hq=>(heap_setCell_other _ _ _ _ hq).trans ((heap_setCell_other _ _ _ _ hq).trans (heap_setCell_other _ _ _ _ hq));refine⟨⟨h.low.os,h.low.tape,h.low.output,by have:=h.low.size; simpa using this,fun q hq=>(ho q (by omega)).trans (h.low.block q hq)⟩,heap_setCell_same _ _ 7 _ _ _ (heap_setCell_same _ _ 6 _ _ _ (heap_setCell_same _ _ 5 _ _ _ h.box)),(ho _ (by omega)).trans h.res,⟨ha.keep (ho _ (by omega)),hr.keep (ho _ (by omega)),hs.keep (ho _ (by omega))⟩,la,lr,ls⟩
theorem Cp.below {w w':World}{g:Nat}{ns:List Int}(h:Cp w g ns)(hb:Below w.heap.size w w'):Cp w' g ns:=h.keep (hb.block g (Zd h.row))
section
variable {P:Program} {ops:Array Oper} {Q:Exit→Act→World→Prop} {md:Region.Mode} {C:World→Prop} {d:Nat}
def Db (P:Program)(md:Region.Mode)(ops:Array Oper)(Q:Exit→Act→World→Prop)(C:World→Prop)(d:Nat):Nat→Array Bool→Act→World→Prop
 | 0,L,a,w=>Region.ready md ops L=[]∧Q .normal a w
 | n+1,L,a,w=>(Region.ready md ops L=[]→Q .normal a w)∧∀ i ∈ Region.ready md ops L,wpOp P ops Q i (fun a' w'=>((L.setIfInBounds i true).getD d true=false→C w')∧Db P md ops Q C d n (L.setIfInBounds i true) a' w') a w
theorem Zcc:∀(n:Nat) (L:Array Bool)(a:Act)(w:World),Db P md ops Q C d n L a w→wpAny P md ops Q n L a w
 | 0,_,_,_,h=>h
 | n+1,_,_,_,h=>⟨h.1,fun i hi=>wpOp_mono (fun a' w' h'=>Zcc n _ a' w' h'.2) (h.2 i hi)⟩
theorem Zdr {i:Nat}{oi od:Oper}{v:Value}(hi:ops[i]?=some oi)(hd:ops[d]?=some od)(hwait:∃ e ∈ od.after,Region.binds md e=true∧e.on=i)
 (hsel:∀(j:Nat) (o:Oper) cs b,ops[j]?=some o→o.op≠.select cs b) (hQ:∀ c a w,Q (.panic c) (a.put oi.dst v) w→Q (.panic c) a w) :
 ∀(n:Nat) (L:Array Bool) (a:Act) (w:World),(∀ j oj,ops[j]?=some oj→j≠i→L.getD j true=false→(∀ e ∈ oj.after,Region.binds md e=true→e.on≠i)→oi.apart ops oj=true) →
  i ∈ Region.ready md ops L→YieldsIf P ops C oi v a→L.getD d true=false→C w→Db P md ops Q C d n (L.setIfInBounds i true) (a.put oi.dst v) w→Db P md ops Q C d (n+1) L a w:=by
 intro n;induction n with
 | zero =>
  intro L a w _ hr hy _ hC H;refine⟨fun h=>(by rw [h] at hr; cases hr),fun j hj=>?_⟩;by_cases hji:j=i
  ·
   subst hji;exact hy.wpOp hi hC ⟨fun _=>hC,H⟩
  ·
   have hx:=ready_mono hj hji;rw [H.1] at hx;cases hx
 | succ n ih =>
  intro L a w hfree hr hy hLd hC H;refine⟨fun h=>(by rw [h] at hr; cases hr),fun j hj=>?_⟩;by_cases hji:j=i
  ·
   subst hji;exact hy.wpOp hi hC ⟨fun _=>hC,H⟩
  ·
   have h1:=H.2 j (ready_mono hj hji);obtain⟨hun,oj,hoj,hall⟩:=mem_ready.1 hj;have hiu:=(mem_ready.1 hr).1;have hnot:∀ e ∈ oj.after,Region.binds md e=true→e.on≠i:=fun e he hb hq=>by
    have k1:=hall e he hb;rw [hq] at k1;rcases Nat.lt_or_ge i L.size with h' | h'
    ·
     simp [h'] at hiu k1;rw [hiu] at k1;cases k1
    ·
     simp [Array.getElem?_eq_none h'] at k1
   have hjd:j≠d:=fun e=>by
    subst e;rw [hoj] at hd;injection hd with hd;subst hd;obtain⟨e,he,hb,hq⟩:=hwait;exact hnot e he hb hq
   have h2:=wpOp_putIf hoj (hfree j oj hoj hji hun hnot) (fun cs b=>hsel i oi cs b hi) (fun cs b=>hsel j oj cs b hoj) hQ hy h1;refine wpOp_mono (fun a' w' h3=>?_) h2;have hLj:(L.setIfInBounds j true).getD d true=false:=by rw [getD_set_ne true hjd]; exact hLd
   have hid:i≠d:=fun e=>by
    subst e;rw [hi] at hd;injection hd with hd;subst hd;obtain⟨e,he,hb,hq⟩:=hwait;obtain⟨-,oi',hoi',hall'⟩:=mem_ready.1 hr;rw [hi] at hoi';injection hoi' with hoi';subst hoi';have k1:=hall' e he hb;rw [hq] at k1;rcases Nat.lt_or_ge i L.size with h' | h'
    ·
     simp [h'] at hiu k1;rw [hiu] at k1;cases k1
    ·
     simp [Array.getElem?_eq_none h'] at k1
   have hC':C w':=h3.2.1 (by rw [getD_set_ne true hjd,getD_set_ne true hid]; exact hLd);refine⟨fun _=>hC',ih (L.setIfInBounds j true) a' w' (fun k ok hk hki hku hno=>?_) (ready_mono hr (Ne.symm hji)) h3.1 hLj hC' ?_⟩
   ·
    refine hfree k ok hk hki ?_ hno;by_cases hjk:j=k
    ·
     subst hjk; exact hun
    ·
     rw [getD_set_ne true hjk] at hku; exact hku
   ·
    rw [Array.setIfInBounds_comm _ _ hji];exact h3.2.2
theorem Xm {i:Nat}{oi od:Oper}{v:Value}{n:Nat}{L:Array Bool}{a:Act}{w:World}(hi:ops[i]?=some oi)(hd:ops[d]?=some od)(hw:(od.after.any fun e=>Region.binds md e&&e.on==i)=true)
 (hs:Region.noSelect ops=true) (hf:Region.free md ops L i=true) (hr:(Region.ready md ops L).contains i=true) (hLd:L.getD d true=false)
 (hQ:∀ c a w,Q (.panic c) (a.put oi.dst v) w→Q (.panic c) a w) (hy:YieldsIf P ops C oi v a) (hC:C w)
 (h:Db P md ops Q C d n (L.setIfInBounds i true) (a.put oi.dst v) w):Db P md ops Q C d (n+1) L a w :=
 Zdr hi hd (by
  obtain⟨k,hk,hq⟩:=Array.any_eq_true.1 hw;simp only [Bool.and_eq_true,beq_iff_eq] at hq;exact⟨_,Array.getElem_mem hk,hq.1,hq.2⟩) (Region.noSelect_spec hs) hQ n L a w (Region.free_spec hi hf) (by simpa using hr) hy hLd hC h
theorem Xy {i:Nat}{o:Oper}{n:Nat}{L:Array Bool}{a:Act}{w:World}(hr:Region.ready md ops L=[i])(ho:ops[i]?=some o)
 (h:∀ K':Act→World→Prop,_root_.Go.Shut (∀ a w,((L.setIfInBounds i true).getD d true=false→C w)→Db P md ops Q C d n (L.setIfInBounds i true) a w→K' a w)→if Region.wanted o (yielded ops a.tmps)=true then Oper.wp P o a w K' Q else K' (a.put o.dst undef) w):Db P md ops Q C d (n+1) L a w:=by
 refine⟨fun h0=>(by rw [hr] at h0; cases h0),fun j hj=>?_⟩;rw [hr] at hj;obtain rfl:j=i:=by simpa using hj
 exact wpOp_step ho (fun K' hK=>h K' (fun a w h1 h2=>hK a w ⟨h1,h2⟩))
theorem Gc {L:Array Bool}{a:Act}{w:World}(hr:Region.ready md ops L=[])(h:Q .normal a w):∀ n,Db P md ops Q C d n L a w
 | 0=>⟨hr,h⟩
 | _+1=>⟨fun _=>h,by rw [hr]; simp⟩
theorem Xw {id:Nat}{a:Act}{w:World}(hm:P.follows .mixedOrders=true)(h:Db P .any ops Q C d ops.size (Array.replicate ops.size false) a w.drew):(Code.region id ops true).wp P Q a w :=
 wp_region_any hm (Zcc _ _ _ _ h)
end
set_option maxHeartbeats 8000000 in
set_option maxRecDepth 100000 in
theorem Zcd (T:Lr)(w:World)(hT:TbO w T)(hl:Zeu T) :
 Calls Tryz.prog 4 #[.agg T.box] w fun e w'=>∃ ga gr gs,e=.returned (.agg (On T ga gr gs).box)∧CpT w' T ga gr gs∧w.heap.size≤ga∧w.heap.size≤gr∧w.heap.size≤gs∧Below w.heap.size w w':=by
 obtain⟨r0,r1,hZ,hB⟩:=Kl w (.cells T.box 25 (0,0)) (.cells #[.int .i64 0,.int .i64 0,.int .i64 0,.int .i64 0,.int .i64 0,.slice none 0 0,.slice none 0 0,.slice none 0 0,.int .i64 0,.int .i64 0,.int .i64 0,.bool false] 25 (0,0));have hI0:Ix w T _:=⟨hB,r0,r1,by omega⟩;have HI0:=J hI0;have HFA:=J (fun V (hV:Ix w T V)=>Lc T.ag T.pa T.ca V (hT.a.below hV.low) hl.a);have HFR:=J (fun V (hV:Ix w T V)=>Lc T.rs T.pr T.cr V (hT.r.below hV.low) hl.r);have HFS:=J (fun V (hV:Ix w T V)=>Lc T.ss T.ps T.cs V (hT.s.below hV.low) hl.s);clear r0 r1 hB hT hl hI0;have HBX:=J (show T.box=#[.int .i64 T.r,.int .i64 T.sp,.int .i64 T.lk,.int .i64 T.t0,.int .i64 T.t1,.slice T.pa T.ag.length T.ca,.slice T.pr T.rs.length T.cr,.slice T.ps T.ss.length T.cs,.int .i64 T.al,.int .i64 T.sh,.int .i64 T.br,.bool T.pairs] from rfl);rw [G HBX] at HI0 ⊢;go_enter Tryz.func4,Tryz.ntmps4
 go_wp2_with fail
 generalize World.alloc (World.alloc w _) _=W at HI0 ⊢;have hs0:=(G HI0).drew.size;have HC0:=J (show W.drew.cell? ⟨w.heap.size,5,none⟩=some (.slice T.pa T.ag.length T.ca)∧W.drew.cell? ⟨w.heap.size,6,none⟩=some (.slice T.pr T.rs.length T.cr)∧W.drew.cell? ⟨w.heap.size,7,none⟩=some (.slice T.ps T.ss.length T.cs) from⟨(G HI0).drew.k5,(G HI0).drew.k6,(G HI0).drew.k7⟩);refine Xw (C:=fun V=>V.cell? ⟨w.heap.size,5,none⟩=some (.slice T.pa T.ag.length T.ca)∧V.cell? ⟨w.heap.size,6,none⟩=some (.slice T.pr T.rs.length T.cr)∧V.cell? ⟨w.heap.size,7,none⟩=some (.slice T.ps T.ss.length T.cs)) (d:=10) (by kernel_rfl) ?_;refine Xm (i:=0) (v:=?v0) rfl rfl (by kernel_rfl) (by kernel_rfl) (by kernel_rfl) (by kernel_rfl) (by kernel_rfl) (fun _ _ _ h=>h) (Or.inl ⟨by rfl,?hy0⟩) (G HC0) ?_;case hy0 =>
  intro V hV;obtain⟨e5,e6,e7⟩:=hV;go_simp;all_goals (with_reducible rfl)
 simp only [Act.put,zA,zB,zC,zD,zE];refine Xm (i:=1) (v:=?v1) rfl rfl (by kernel_rfl) (by kernel_rfl) (by kernel_rfl) (by kernel_rfl) (by kernel_rfl) (fun _ _ _ h=>h) (Or.inl ⟨by rfl,?hy1⟩) (G HC0) ?_;case hy1 =>
  intro V hV;obtain⟨e5,e6,e7⟩:=hV;go_simp;all_goals (with_reducible rfl)
 simp only [Act.put,zA,zB,zC,zD,zE,zF];refine Xm (i:=3) (v:=?v3) rfl rfl (by kernel_rfl) (by kernel_rfl) (by kernel_rfl) (by kernel_rfl) (by kernel_rfl) (fun _ _ _ h=>h) (Or.inl ⟨by rfl,?hy3⟩) (G HC0) ?_;case hy3 =>
  intro V hV;obtain⟨e5,e6,e7⟩:=hV;go_simp;all_goals (with_reducible rfl)
 simp only [Act.put,zA,zB,zC,zD,zE,zF];refine Xm (i:=4) (v:=?v4) rfl rfl (by kernel_rfl) (by kernel_rfl) (by kernel_rfl) (by kernel_rfl) (by kernel_rfl) (fun _ _ _ h=>h) (Or.inl ⟨by rfl,?hy4⟩) (G HC0) ?_;case hy4 =>
  intro V hV;obtain⟨e5,e6,e7⟩:=hV;go_simp;all_goals (with_reducible rfl)
 simp only [Act.put,zA,zB,zC,zD,zE,zF];refine Xm (i:=6) (v:=?v6) rfl rfl (by kernel_rfl) (by kernel_rfl) (by kernel_rfl) (by kernel_rfl) (by kernel_rfl) (fun _ _ _ h=>h) (Or.inl ⟨by rfl,?hy6⟩) (G HC0) ?_;case hy6 =>
  intro V hV;obtain⟨e5,e6,e7⟩:=hV;go_simp;all_goals (with_reducible rfl)
 simp only [Act.put,zA,zB,zC,zD,zE,zF];refine Xm (i:=7) (v:=?v7) rfl rfl (by kernel_rfl) (by kernel_rfl) (by kernel_rfl) (by kernel_rfl) (by kernel_rfl) (fun _ _ _ h=>h) (Or.inl ⟨by rfl,?hy7⟩) (G HC0) ?_;case hy7 =>
  intro V hV;obtain⟨e5,e6,e7⟩:=hV;go_simp;all_goals (with_reducible rfl)
 simp only [Act.put,zA,zB,zC,zD,zE,zF];refine Xy (i:=2) (by kernel_rfl) rfl (fun K hK=>?_);go_simp;refine(G HFA _ (G HI0).drew).mono ?_;rintro e w1 ⟨he,hcp,hb⟩;unfold cpV at he;subst he;have hi1:=Ix.next (G HI0).drew hb;have hs1:=hi1.size;have HI1:=J hi1;have HC1:=J hcp;clear hcp hb hi1;refine hK.out _ _ (fun _=>⟨(G HI1).k5,(G HI1).k6,(G HI1).k7⟩) ?_;clear hK K;try simp only [Act.put,zA,zB,zC,zD,zE,zF]
 refine Xm (i:=9) (v:=?v9) rfl rfl (by kernel_rfl) (by kernel_rfl) (by kernel_rfl) (by kernel_rfl) (by kernel_rfl) (fun _ _ _ h=>h) (Or.inl ⟨by rfl,?hy9⟩) ⟨(G HI1).k5,(G HI1).k6,(G HI1).k7⟩ ?_;case hy9 =>
  intro V hV;obtain⟨e5,e6,e7⟩:=hV;go_simp;all_goals (with_reducible rfl)
 simp only [Act.put,zA,zB,zC,zD,zE,zF];refine Xy (i:=5) (by kernel_rfl) rfl (fun K hK=>?_);go_simp;refine(G HFR _ (G HI1)).mono ?_;rintro e w2 ⟨he,hcp,hb⟩;unfold cpV at he;subst he;have hi2:=Ix.next (G HI1) hb;have hs2:=hi2.size;have HI2:=J hi2;have HC2:=J hcp;have HC12:=J ((G HC1).below hb);clear hcp hb hi2;refine hK.out _ _ (fun _=>⟨(G HI2).k5,(G HI2).k6,(G HI2).k7⟩) ?_;clear hK K;try simp only [Act.put,zA,zB,zC,zD,zE,zF]
 refine Xy (i:=8) (by kernel_rfl) rfl (fun K hK=>?_);go_simp;refine(G HFS _ (G HI2)).mono ?_;rintro e w3 ⟨he,hcp,hb⟩;unfold cpV at he;subst he;have hi3:=Ix.next (G HI2) hb;have k35:=hi3.k5;have k36:=hi3.k6;have k37:=hi3.k7;have z5:=frozen_of_row _ _ 5 _ _ hi3.box;have z6:=frozen_of_row _ _ 6 _ _ hi3.box;have z7:=frozen_of_row _ _ 7 _ _ hi3.box;have HQ:=J (CtQ.of (ga:=W.heap.size) hi3 ((G HC12).below hb) ((G HC2).below hb) hcp hs0 hs1 hs2);have HI3:=J hi3;clear hcp hb hi3;refine hK.out _ _ (fun _=>⟨(G HI3).k5,(G HI3).k6,(G HI3).k7⟩) ?_;clear hK K;try simp only [Act.put,zA,zB,zC,zD,zE,zF]
 refine Xy (i:=10) (by kernel_rfl) rfl (fun K hK=>?_);go_simp;refine hK.out _ _ (fun h=>absurd h (by simp)) ?_;clear hK K;try simp only [Act.put,zA,zB,zC,zD,zE,zF]
 refine Xy (i:=11) (by kernel_rfl) rfl (fun K hK=>?_);go_simp;refine hK.out _ _ (fun h=>absurd h (by simp)) ?_;clear hK K;try simp only [Act.put,zA,zB,zC,zD,zE,zF]
 refine Xy (i:=12) (by kernel_rfl) rfl (fun K hK=>?_);go_simp;refine hK.out _ _ (fun h=>absurd h (by simp)) ?_;clear hK K;try simp only [Act.put,zA,zB,zC,zD,zE,zF]
 refine Xy (i:=13) (by kernel_rfl) rfl (fun K hK=>?_);go_simp;refine hK.out _ _ (fun h=>absurd h (by simp)) ?_;clear hK K;try simp only [Act.put,zA,zB,zC,zD,zE,zF]
 refine Xy (i:=14) (by kernel_rfl) rfl (fun K hK=>?_);go_simp;refine hK.out _ _ (fun h=>absurd h (by simp)) ?_;clear hK K;try simp only [Act.put,zA,zB,zC,zD,zE,zF]
 refine Gc (by kernel_rfl) ?_ _;clear k35 k36 k37 z5 z6 z7 HC1 HC2 HC12 HI1 HI2 HI3 HFA HFR HFS HC0;generalize World.setCell (World.setCell (World.setCell w3 _ _) _ _) _ _=Z at HQ ⊢;generalize W.heap.size=ga at HQ ⊢;generalize w1.heap.size=gr at HQ ⊢;generalize w2.heap.size=gs at HQ ⊢;have hQ:=G HQ;have hbx:=hQ.box;have HRES:=J hQ.res;have e0:=cR hbx 0;have e1:=cR hbx 1;have e2:=cR hbx 2;have e3:=cR hbx 3;have e4:=cR hbx 4;have e5:=cR hbx 5;have e6:=cR hbx 6;have e7:=cR hbx 7;have e8:=cR hbx 8;have e9:=cR hbx 9;have e10:=cR hbx 10;have e11:=cR hbx 11;clear hbx hQ;go_wp2_with (refine wpList_store_row rfl 25 _ _ rfl (w.heap.size+1) (On T ga gr gs).box rfl rfl 25 _ (G HRES) (Tryz.infTbM.trans rfl) rfl (by simp [Value.oneCell',Lr.box,On]) ?_)
 refine bodyPost_ret (Jp (fn:=Tryz.f4) (q:=2) (uy:=25) rfl _ _ (w.heap.size+1) 25 (On T ga gr gs).box (0,0) _ rfl (setRow_heap _ _ _ _ _ _ (G HRES)) Tryz.underlying25 rfl (Tryz.infTbM.trans rfl)) rfl ?_;have hQ:=G HQ;have ho:∀ q,q≠w.heap.size+1→(Z.setRow (w.heap.size+1) (On T ga gr gs).box).heap[q]?=Z.heap[q]?:=fun q hq=>setRow_other _ _ _ _ hq;exact⟨ga,gr,gs,rfl,⟨hQ.cp.a.keep (ho _ (by have:=hQ.la; omega)),hQ.cp.r.keep (ho _ (by have:=hQ.lr; omega)),hQ.cp.s.keep (ho _ (by have:=hQ.ls; omega))⟩,by have:=hQ.la; omega,by have:=hQ.lr; omega,by have:=hQ.ls; omega,Zh hQ.low (by omega)⟩
def Ziv (f:Func)(n:Nat):Code:=(((f.body.map Ui).getD [])[n]?).getD .skip
set_option maxHeartbeats 8000000 in
set_option maxRecDepth 100000 in
theorem Zqa (w0 w u:World)(x:Xk)(q lo lg:Nat)(bp op qs:Option Addr)(bc oc cs:Nat)(ns:List Int)(B:Nat→Value)(Q0:Exit→Act→World→Prop)(s0 s1 s2 s3 s4 s5 s6 s8 s9 s10 s11 s12 s13 s14 s15 s16 s17 s18 s19 s20 s21 s25 s26 s27 s28 s29 s30 s31 s32 s33 s34 s35 s36 s37 s38 s39 s40 s41 s42 s43 s44 s45 s46 s47 s48 s49 s50 s51 s52 s53 s54 s55 s56 s57 s58 s59 s60 s61 s62 s63 s64 s65 s66 s67 s68 s69 s70 s71 s72 s73 s74 s75 s76 s77 s78 s79 s80 s81 s82:Value)
 (hx:x.s=[]) (hlo:lo=w.heap.size) (hbw0:Below w0.heap.size w0 w) (hS:Li w0 (.slice qs ns.length cs) ns) (hns:∀ k,k<ns.length→0≤ns.getD k 0∧ns.getD k 0≤8) (hnl:ns.length≤6)
 (hu:Gn w0 u x q lo u.heap.size lg bp none op bc 0 oc [] B) (hbu:Below w.heap.size w u)
 (hexit:∀(w':World) (sp:Option Addr) (sc:Nat) (gs:List Nat),Gn w0 w' { x with s:=(ns.take ns.length).map fun n=>List.replicate (8*n).toNat 0 } q lo w'.heap.size lg bp sp op bc sc oc gs B→Below w.heap.size w w'→∀(u9 u24 u25 u26 u27 u28 u29 u30 u31 u32 u33 u34 u35 u36 u37 u38 u39 u40:Value),Q0 (.exit 0) ⟨List.toArray (s0 :: s1 :: s2 :: s3 :: s4 :: s5 :: s6 :: .pointer (some ⟨q,0,none⟩) :: s8 :: u9 :: s10 :: s11 :: s12 :: s13 :: s14 :: s15 :: s16 :: s17 :: s18 :: s19 :: s20 :: s21 :: .slice qs ns.length cs :: .int .i64 ns.length :: u24 :: u25 :: u26 :: u27 :: u28 :: u29 :: u30 :: u31 :: u32 :: u33 :: u34 :: u35 :: u36 :: u37 :: u38 :: u39 :: u40 :: s41 :: s42 :: s43 :: s44 :: s45 :: s46 :: s47 :: s48 :: s49 :: s50 :: s51 :: s52 :: s53 :: s54 :: s55 :: s56 :: s57 :: s58 :: s59 :: s60 :: s61 :: s62 :: s63 :: s64 :: s65 :: s66 :: s67 :: s68 :: s69 :: s70 :: s71 :: s72 :: s73 :: s74 :: s75 :: s76 :: s77 :: s78 :: s79 :: s80 :: s81 :: s82 :: []),[]⟩ w') :
 Code.wp Tryz.prog (Ziv Tryz.f64 0) Q0 ⟨List.toArray (s0 :: s1 :: s2 :: s3 :: s4 :: s5 :: s6 :: .pointer (some ⟨q,0,none⟩) :: s8 :: s9 :: s10 :: s11 :: s12 :: s13 :: s14 :: s15 :: s16 :: s17 :: s18 :: s19 :: s20 :: s21 :: .slice qs ns.length cs :: .int .i64 ns.length :: .int .i64 0 :: s25 :: s26 :: s27 :: s28 :: s29 :: s30 :: s31 :: s32 :: s33 :: s34 :: s35 :: s36 :: s37 :: s38 :: s39 :: s40 :: s41 :: s42 :: s43 :: s44 :: s45 :: s46 :: s47 :: s48 :: s49 :: s50 :: s51 :: s52 :: s53 :: s54 :: s55 :: s56 :: s57 :: s58 :: s59 :: s60 :: s61 :: s62 :: s63 :: s64 :: s65 :: s66 :: s67 :: s68 :: s69 :: s70 :: s71 :: s72 :: s73 :: s74 :: s75 :: s76 :: s77 :: s78 :: s79 :: s80 :: s81 :: s82 :: []),[]⟩ u:=by
 obtain⟨ti,hti,hty0,hty1,hty2⟩:=Xs Tryz.infoBy;have HS0:=J hS;have HNS:=J hns;have HU:=J hu;have HBU:=J hbu;have HEX:=J hexit;have HB0:=J hbw0;have HXS:=J hx;have HLO:=J hlo;clear hS hns hu hbu hexit hbw0 hx hlo;refine Zcb (id:=0) ?_;conv=>arg 2; whnf
 go_loopw [24] (fun sk w'=>∃(k:Nat) (sp:Option Addr) (sc:Nat) (gs:List Nat),sk=.int .i64 k∧k≤ns.length∧Gn w0 w' { x with s:=(ns.take k).map fun n=>List.replicate (8*n).toNat 0 } q lo w'.heap.size lg bp sp op bc sc oc gs B∧Below w.heap.size w w') (fun sk _=>ns.length-(intOf sk).toNat)
 case atStart =>
  have e:({ x with s:=(ns.take 0).map fun n=>List.replicate (8*n).toNat 0 }:Xk)=x:=by
   have:=G HXS;cases x
   simp_all
  refine⟨0,none,0,[],rfl,by omega,?_,G HBU⟩;rw [e];exact G HU
 case round =>
  obtain⟨k,sp,sc,gs,rfl,hk,hF,hbw⟩:=hrel;by_cases hk2:k<ns.length
  ·
   clear HEX HU HBU;obtain⟨p',c',e1,-,-,hcc⟩:=(G HS0).below (Za (G HB0) hbw (G HB0).size);injection e1 with f1 f2 f3;obtain⟨sb,so,hsp,hcell⟩:=hcc (by omega);rw [← f1] at hsp;subst hsp;have d:=hcell k hk2;obtain⟨hx0,hx1⟩:=G HNS k hk2;have HNX:=J (show(ns.take (k+1)).map (fun n=>List.replicate (8*n).toNat (0:Int))=(ns.take k).map (fun n=>List.replicate (8*n).toNat (0:Int))++[List.replicate (8*ns.getD k 0).toNat 0] by rw [List.take_add_one,List.getElem?_eq_getElem hk2,List.map_append,Yu ns 0 k hk2]; rfl);obtain⟨n,hn⟩:=Int.eq_ofNat_of_zero_le hx0;rw [hn] at d HNX hx1;have hn8:n≤8:=by omega
   rw [show(8*(n:Int)).toNat=8*n by omega] at HNX;have HMK:=fun V=>mkY (8*n) (by omega) V;rw [show(((8*n:Nat)):Int)=8*(n:Int) by omega] at HMK;have hsl:((ns.take k).map (fun n=>List.replicate (8*n).toNat (0:Int))).length=k:=by simp; omega
   obtain⟨y,hy⟩:∃ y:Xk,y={ x with s:=(ns.take k).map fun n=>List.replicate (8*n).toNat 0 }:=⟨_,rfl⟩;rw [← hy] at hF;have HY:=J hy;have hyl:y.s.length=k:=by rw [hy]; exact hsl
   have HF:=J hF;have HBW:=J hbw;have HS:=J (show(fun V=>V.heap[q]?=some (.cells #[.slice bp y.fn.blocks.length bc,.int .i64 y.b,.int .i64 y.i,.slice (some ⟨lg,0,none⟩) y.v.length y.v.length,.slice sp y.s.length sc,.slice op y.o.length oc] 177 (0,0))) wr.drew from hF.row);have hwk:IntKind.i64.wrap (8*(n:Int))=8*(n:Int):=by rw [IntKind.wrap_i64]; omega
   have HYL:=J (show y.s.length≤6 by omega);have HYK:=J hyl;clear hy hF hbw hx0 hx1 hn hsl f1 f2 f3 hcc hcell hyl;go_upto_region 5 with fail
   clear d;refine Xw (C:=fun V=>V.heap[q]?=some (.cells #[.slice bp y.fn.blocks.length bc,.int .i64 y.b,.int .i64 y.i,.slice (some ⟨lg,0,none⟩) y.v.length y.v.length,.slice sp y.s.length sc,.slice op y.o.length oc] 177 (0,0))) (d:=12) (by kernel_rfl) ?_;refine Xm (i:=0) (v:=?v0) rfl rfl (by kernel_rfl) (by kernel_rfl) (by kernel_rfl) (by kernel_rfl) (by kernel_rfl) (fun _ _ _ h=>h) (Or.inl ⟨by rfl,?hy0⟩) (G HS) ?_;case hy0 =>
    intro V hV;try dsimp only at hV
    clear hV;go_simp;all_goals (with_reducible rfl)
   simp only [Act.put,zA,zB,zC,zD,zE];refine Xm (i:=1) (v:=?v1) rfl rfl (by kernel_rfl) (by kernel_rfl) (by kernel_rfl) (by kernel_rfl) (by kernel_rfl) (fun _ _ _ h=>h) (Or.inl ⟨by rfl,?hy1⟩) (G HS) ?_;case hy1 =>
    intro V hV;try dsimp only at hV
    clear hV;go_simp;all_goals (with_reducible rfl)
   simp only [Act.put,zA,zB,zC,zD,zE,zF];refine Xm (i:=2) (v:=?v2) rfl rfl (by kernel_rfl) (by kernel_rfl) (by kernel_rfl) (by kernel_rfl) (by kernel_rfl) (fun _ _ _ h=>h) (Or.inl ⟨by rfl,?hy2⟩) (G HS) ?_;case hy2 =>
    intro V hV;try dsimp only at hV
    clear hV;go_simp;all_goals (with_reducible rfl)
   simp only [Act.put,zA,zB,zC,zD,zE,zF];refine Xm (i:=3) (v:=?v3) rfl rfl (by kernel_rfl) (by kernel_rfl) (by kernel_rfl) (by kernel_rfl) (by kernel_rfl) (fun _ _ _ h=>h) (Or.inl ⟨by rfl,?hy3⟩) (G HS) ?_;case hy3 =>
    intro V hV;try dsimp only at hV
    clear hV;go_simp;all_goals (with_reducible rfl)
   simp only [Act.put,zA,zB,zC,zD,zE,zF];refine Xm (i:=4) (v:=?v4) rfl rfl (by kernel_rfl) (by kernel_rfl) (by kernel_rfl) (by kernel_rfl) (by kernel_rfl) (fun _ _ _ h=>h) (Or.inl ⟨by rfl,?hy4⟩) (G HS) ?_;case hy4 =>
    intro V hV;try dsimp only at hV
    have c:=cR hV 4;clear hV;go_simp;all_goals (with_reducible rfl)
   simp only [Act.put,zA,zB,zC,zD,zE,zF];refine Xm (i:=5) (v:=?v5) rfl rfl (by kernel_rfl) (by kernel_rfl) (by kernel_rfl) (by kernel_rfl) (by kernel_rfl) (fun _ _ _ h=>h) (Or.inl ⟨by rfl,?hy5⟩) (G HS) ?_;case hy5 =>
    intro V hV;try dsimp only at hV
    clear hV;go_simp;all_goals (with_reducible rfl)
   simp only [Act.put,zA,zB,zC,zD,zE,zF];refine Xm (i:=6) (v:=?v6) rfl rfl (by kernel_rfl) (by kernel_rfl) (by kernel_rfl) (by kernel_rfl) (by kernel_rfl) (fun _ _ _ h=>h) (Or.inl ⟨by rfl,?hy6⟩) (G HS) ?_;case hy6 =>
    intro V hV;try dsimp only at hV
    clear hV;go_simp;all_goals (with_reducible rfl)
   simp only [Act.put,zA,zB,zC,zD,zE,zF];refine Xy (i:=7) (by kernel_rfl) rfl (fun K hK=>?_);go_simp;obtain⟨r1,b1,z1⟩:=Yj wr (.cells (yC (List.replicate (8*n) 0)).toArray 5 (0,0));have hW1:=G HS;have hS1:(fun V=>V.heap[q]?=some (.cells #[.slice bp y.fn.blocks.length bc,.int .i64 y.b,.int .i64 y.i,.slice (some ⟨lg,0,none⟩) y.v.length y.v.length,.slice sp y.s.length sc,.slice op y.o.length oc] 177 (0,0))) (wr.alloc (.cells (yC (List.replicate (8*n) 0)).toArray 5 (0,0))).drew:=(b1.block q (Zd hW1)).trans hW1;refine hK.out _ _ (fun _=>hS1) ?_;clear hK K;try simp only [Act.put,zA,zB,zC,zD,zE,zF]
   refine Xy (i:=8) (by kernel_rfl) rfl (fun K hK=>?_);go_simp;obtain⟨r2,b2,z2⟩:=Yj (wr.alloc (.cells (yC (List.replicate (8*n) 0)).toArray 5 (0,0))) (.cells #[.slice (some ⟨wr.heap.size,0,none⟩) (8*n) (8*n)] 178 (0,0));have hS2:(fun V=>V.heap[q]?=some (.cells #[.slice bp y.fn.blocks.length bc,.int .i64 y.b,.int .i64 y.i,.slice (some ⟨lg,0,none⟩) y.v.length y.v.length,.slice sp y.s.length sc,.slice op y.o.length oc] 177 (0,0))) ((wr.alloc (.cells (yC (List.replicate (8*n) 0)).toArray 5 (0,0))).alloc (.cells #[.slice (some ⟨wr.heap.size,0,none⟩) (8*n) (8*n)] 178 (0,0))):=(b2.block q (Zd hS1)).trans hS1;have HOW:=J (World.ownsRow.alloc (World.ownsRow.alloc (G HF).slo (.cells (yC (List.replicate (8*n) 0)).toArray 5 (0,0))) (.cells #[.slice (some ⟨wr.heap.size,0,none⟩) (8*n) (8*n)] 178 (0,0)));have c9:((wr.alloc (.cells (yC (List.replicate (8*n) 0)).toArray 5 (0,0))).alloc (.cells #[.slice (some ⟨wr.heap.size,0,none⟩) (8*n) (8*n)] 178 (0,0))).cell? ⟨wr.heap.size+1,0,none⟩=some (.slice (some ⟨wr.heap.size,0,none⟩) (8*n) (8*n)):=by rw [z1] at r2; exact(cR r2 0)
   have hz2:((wr.alloc (.cells (yC (List.replicate (8*n) 0)).toArray 5 (0,0))).alloc (.cells #[.slice (some ⟨wr.heap.size,0,none⟩) (8*n) (8*n)] 178 (0,0))).heap.size=wr.heap.size+1+1:=by rw [z2,z1]
   clear r1 b1 z1 r2 b2 z2 hS1;refine hK.out _ _ (fun _=>hS2) ?_;clear hK K;try simp only [Act.put,zA,zB,zC,zD,zE,zF]
   have hlow:=(G HF).ql;have hqh:=(G HF).qh;refine Xy (i:=9) (by kernel_rfl) rfl (fun K hK=>?_);refine Ua rfl (.tmp 32) (.tmp 36) 175 rfl lo 178 ti _ 1 24 Tryz.underlying175 hti hty0 hty1 hty2 rfl (by decide) (.slice sp y.s.length sc) y.s.length (Ic gs (y.s.map List.length)) rfl (G HOW) ⟨wr.heap.size+1,0,none⟩ 1 1 [.slice (some ⟨wr.heap.size,0,none⟩) (8*n) (8*n)] rfl rfl (by intro j u hj; match j,hj with | 0,hj=>(simp at hj; subst hj; exact c9)) (by intro u hu; simp at hu; subst hu; rfl) (by have:=G HYL; unfold maxLen; omega) (by have:=G HYL; omega) (by show lo≤((wr.alloc (.cells (yC (List.replicate (8*n) 0)).toArray 5 (0,0))).alloc (.cells #[.slice (some ⟨wr.heap.size,0,none⟩) (8*n) (8*n)] 178 (0,0))).heap.size; omega) ?_;intro v7 w7 hown7 hgr7;have hg7:((wr.alloc (.cells (yC (List.replicate (8*n) 0)).toArray 5 (0,0))).alloc (.cells #[.slice (some ⟨wr.heap.size,0,none⟩) (8*n) (8*n)] 178 (0,0))).grownBy w7 (Value.slice sp y.s.length sc).ownBlock:=⟨hgr7.os,hgr7.tape,hgr7.output,hgr7.size,hgr7.block⟩;have hq7:=(hg7.block q (by omega) (fun e=>absurd e.symm (Xu (G HF).slo (G HF).row (by decide)))).trans hS2;obtain⟨g7,c7,rfl⟩:=Ob hown7;have HX:=J (Zlg (l:=List.replicate (8*n) 0) (G HF) hg7 (by rw [List.length_replicate]; exact hown7));have HB7:=J (show Below w.heap.size w w7 by
    have hb:=G HBW;have hl:=G HLO;have e1:=Yj wr (.cells (yC (List.replicate (8*n) 0)).toArray 5 (0,0));have e2:=Yj (wr.alloc (.cells (yC (List.replicate (8*n) 0)).toArray 5 (0,0))) (.cells #[.slice (some ⟨wr.heap.size,0,none⟩) (8*n) (8*n)] 178 (0,0));have hbz:=hb.size;have h7:=hg7.size;refine⟨hg7.os.trans (e2.2.1.os.trans (e1.2.1.os.trans hb.os)),hg7.tape.trans (e2.2.1.tape.trans (e1.2.1.tape.trans hb.tape)),hg7.output.trans (e2.2.1.output.trans (e1.2.1.output.trans hb.output)),by omega,fun b hq=>?_⟩;exact(hg7.block b (by omega) (fun e=>by have:=(World.ownsRow.lt (G HF).slo b e.symm).1; omega)).trans ((e2.2.1.block b (by rw [e1.2.2]; omega)).trans ((e1.2.1.block b (by omega)).trans (hb.block b hq))))
   have c8:=cR hq7 4;have z8:=frozen_of_row _ _ 4 _ _ hq7;have hlo:=G HLO;refine hK.out _ _ (fun _=>hq7) ?_;clear hK K hown7 hgr7 hg7 HOW c9 hz2 hS2;try simp only [Act.put,zA,zB,zC,zD,zE,zF]
   refine Xy (i:=10) (by kernel_rfl) rfl (fun K hK=>?_);go_simp;refine hK.out _ _ (fun _=>hq7) ?_;clear hK K;try simp only [Act.put,zA,zB,zC,zD,zE,zF]
   refine Xy (i:=11) (by kernel_rfl) rfl (fun K hK=>?_);go_simp;refine hK.out _ _ (fun _=>hq7) ?_;clear hK K;try simp only [Act.put,zA,zB,zC,zD,zE,zF]
   refine Xy (i:=12) (by kernel_rfl) rfl (fun K hK=>?_);go_simp;refine hK.out _ _ (fun h=>absurd h (by simp)) ?_;clear hK K;try simp only [Act.put]
   refine Gc (by kernel_rfl) ?_ _;clear c8 z8 hq7;have hzz:(w7.setCell ⟨q,4,none⟩ (.slice (some ⟨g7,0,none⟩) (y.s.length+1) c7)).heap.size=w7.heap.size:=by simp
   have HX2:=J (show Gn w0 (w7.setCell ⟨q,4,none⟩ (.slice (some ⟨g7,0,none⟩) (y.s.length+1) c7)) { x with s:=(ns.take (k+1)).map fun n=>List.replicate (8*n).toNat 0 } q lo (w7.setCell ⟨q,4,none⟩ (.slice (some ⟨g7,0,none⟩) (y.s.length+1) c7)).heap.size lg bp (some ⟨g7,0,none⟩) op bc c7 oc (gs++[wr.heap.size]) B by
    rw [hzz,G HNX];have h:=G HX;have e:({ y with s:=y.s++[List.replicate (8*n) (0:Int)] }:Xk)={ x with s:=(ns.take k).map (fun n=>List.replicate (8*n).toNat (0:Int))++[List.replicate (8*n) 0] }:=by rw [G HY]
    rw [e] at h;exact h)
   have HB8:=J (show Below w.heap.size w (w7.setCell ⟨q,4,none⟩ (.slice (some ⟨g7,0,none⟩) (y.s.length+1) c7)) from⟨(G HB7).os,(G HB7).tape,(G HB7).output,by rw [hzz]; exact(G HB7).size,fun b hb=>(heap_setCell_other _ _ _ _ (by show b≠q; omega)).trans ((G HB7).block b hb)⟩);clear HX HB7 hzz;go_wp2;go_roundw
   case rel=>exact⟨k+1,_,_,_,by go_num,by omega,G HX2,G HB8⟩
   case measure=>simp [intOf]; omega
  ·
   have hkn:k=ns.length:=by omega
   subst hkn;have HX:=J (G HEX wr sp sc gs hF hbw);clear hF hbw;go_wp2_with fail
   exact⟨rfl,G HX _ _ _ _ _ _ _ _ _ _ _ _ _ _ _ _ _ _⟩
theorem Od {w:World}{wb wo c j:Nat}{ws:List Int}(h:Lv w (.slice (some ⟨wb,wo,none⟩) ws.length c) ws)(hj:j≤ws.length):Lv w (.slice (if c=j then some ⟨wb,wo,none⟩ else some ⟨wb,wo+j,none⟩) (ws.drop j).length (c-j)) (ws.drop j):=by
 obtain⟨p,cap,e,h2,h3,h4⟩:=h;injection e with e1 e2 e3;subst e1 e3;refine⟨_,_,rfl,by simp; omega,by simp; omega,fun h0=>?_⟩;rw [List.length_drop] at h0;rw [if_neg (by omega)];refine⟨wb,wo+j,rfl,fun i hi=>?_⟩;rw [List.length_drop] at hi;obtain⟨sb,so,e,hc⟩:=h4 (by omega);injection e with e;injection e with e5 e6;subst e5 e6;have:=hc (j+i) (by omega);rw [← Nat.add_assoc] at this;rw [this];simp [List.getD]
def Xe (l:List (Int×Int)):Nat:=(l.map fun p=>if p.1=0 then 1 else p.1.toNat).foldr (·+·) 0
def Ziw (v:List Int)(s:List (List Int))(p:Int×Int):Prop:=0≤p.1∧p.1≤8∧0≤p.2∧(p.1=0→p.2<v.length)∧(p.1≠0→p.2<s.length∧8*p.1≤(s.getD p.2.toNat []).length)
theorem Zix {bs:List Int}(h:∀ n ∈ bs,0≤n∧n<256)(a k:Nat)(v:Int):∀ n ∈ Sd bs a k v,0≤n∧n<256:=fun n hn=>by
 unfold Sd at hn;obtain⟨i,-,rfl⟩:=List.mem_map.1 hn;unfold upd;split
 ·
  unfold byt; omega
 ·
  exact Rb h i
theorem Kz {bs:List Int}(h:∀ n ∈ bs,0≤n∧n<256)(ws:List Int):∀ k,∀ n ∈ Jz bs ws k,0≤n∧n<256
 | 0=>h
 | k+1=>by rw [Ly]; exact Zix (Kz h ws k) _ _ _
theorem Zcs {bs:List Int}(h:∀ n ∈ bs,0≤n∧n<256)(ws:List Int):∀ n ∈ Rj bs ws,0≤n∧n<256:=Kz h ws ws.length
theorem Sc (bs ws:List Int):(Rj bs ws).length=bs.length:=Oa bs ws ws.length
theorem Zlh {g lo hi:Nat}{w w':World}(h:Ok g w w')(h1:lo≤g)(h2:g<hi):Sx lo hi w w':=⟨h.os,h.tape,h.output,Nat.le_of_eq h.size.symm,fun q _ hd=>h.oth q (by omega)⟩
theorem Zli {w0 V V':World}{x:Xk}{q lo hi lg bc sc oc:Nat}{bp sp op:Option Addr}{gs:List Nat}{B:Nat→Value}(h:Gn w0 V x q lo hi lg bp sp op bc sc oc gs B){k:Nat}(hk:k<x.s.length){l:List Int}(hl:l.length=(x.s.getD k []).length)(hg:V'.heap[gs.getD k 0]?=some (.cells (yC l).toArray 5 (0,0)))(hO:Ok (gs.getD k 0) V V'):Gn w0 V' { x with s:=x.s.set k l } q lo hi lg bp sp op bc sc oc gs B:=by
 have hr:=(h.each k hk).1;have hl2:({ x with s:=x.s.set k l }:Xk).s.length=x.s.length:=by simp
 refine⟨h.ql,h.qh,h.gl,h.gh,h.gq,by rw [hO.size]; exact h.hs,?_,(hO.oth _ (Zs h.loc hr (by decide))).trans h.loc,?_,by rw [hl2]; exact h.sb,by rw [hl2]; exact h.len,fun j hj=>?_,h.inj,h.bls,h.blk,h.ous⟩
 ·
  rw [hl2];exact(hO.oth _ (Zs h.row hr (by decide))).trans h.row
 ·
  rw [hl2,show({ x with s:=x.s.set k l }:Xk).s.map List.length=x.s.map List.length from Oq _ _ _ hl];exact Yq h.slo (fun g e=>hO.oth g (Ji h hr (by decide) g e))
 ·
  rw [hl2] at hj;show V'.heap[gs.getD j 0]?=some (.cells (yC ((x.s.set k l).getD j [])).toArray _ _)∧_;rw [Re _ _ _ _ hk];by_cases he:j=k
  ·
   subst he;rw [if_pos rfl];exact⟨hg,(h.each j hj).2⟩
  ·
   rw [if_neg he];exact⟨(hO.oth _ (Zms h (by rw [h.len]; exact hj) (by rw [h.len]; exact hk) he)).trans (h.each j hj).1,(h.each j hj).2⟩
set_option maxHeartbeats 8000000 in
set_option maxRecDepth 100000 in
theorem Zqb (w0 w u:World)(x:Xk)(q lo hi lg:Nat)(bp sp op pp wp:Option Addr)(bc sc oc pc wc:Nat)(gs:List Nat)(B:Nat→Value)(ps:List (Int×Int))(ws v0:List Int)(z0:List (List Int))(Q0:Exit→Act→World→Prop)(s0 s2 s3 s4 s5 s6 s8 s9 s10 s11 s12 s13 s14 s15 s16 s17 s18 s19 s20 s21 s22 s23 s24 s25 s26 s27 s28 s29 s30 s31 s32 s33 s34 s35 s36 s37 s38 s39 s40 s41 s45 s46 s47 s48 s49 s50 s51 s52 s53 s54 s55 s56 s57 s58 s59 s60 s61 s62 s63 s64 s65 s66 s67 s68 s69 s70 s71 s72 s73 s74 s75 s76 s77 s78 s79 s80 s81 s82:Value)
 (hlo:w.heap.size≤lo) (hbw0:Below w0.heap.size w0 w) (hS:LS 2 w0 (.slice pp ps.length pc) ps.length (fun k=>Yz (ps.getD k (0,0)))) (hnl:ps.length≤8)
 (hP:∀ k,k<ps.length→Ziw v0 z0 (ps.getD k (0,0))) (hW:Lv w (.slice wp ws.length wc) ws) (hwl:ws.length=Xe ps) (hws:∀ n ∈ ws,0≤n∧n<18446744073709551616) (hsl:∀ l ∈ z0,l.length≤65536)
 (hu:Gn w0 u { x with v:=v0,s:=z0 } q lo hi lg bp sp op bc sc oc gs B) (hbu:Below w.heap.size w u) (hok:IOk { x with v:=v0,s:=z0 })
 (hexit:∀(w':World),Gn w0 w' { x with v:=(Lz ps v0 z0 ws).1,s:=(Lz ps v0 z0 ws).2 } q lo hi lg bp sp op bc sc oc gs B→Sx lo hi u w'→IOk { x with v:=(Lz ps v0 z0 ws).1,s:=(Lz ps v0 z0 ws).2 }→∀(u1 u11 u44 u45 u46 u47 u48 u49 u50 u51 u52 u53 u54 u55 u56 u57 u58 u59 u60 u61 u62 u63 u64 u65 u66 u67 u68 u69 u70 u71 u72 u73 u74 u75 u76 u77 u78 u79 u80 u81:Value),Q0 (.exit 2) ⟨List.toArray (s0 :: u1 :: s2 :: s3 :: s4 :: s5 :: s6 :: .pointer (some ⟨q,0,none⟩) :: s8 :: s9 :: s10 :: u11 :: s12 :: s13 :: s14 :: s15 :: s16 :: s17 :: s18 :: s19 :: s20 :: s21 :: s22 :: s23 :: s24 :: s25 :: s26 :: s27 :: s28 :: s29 :: s30 :: s31 :: s32 :: s33 :: s34 :: s35 :: s36 :: s37 :: s38 :: s39 :: s40 :: s41 :: .slice pp ps.length pc :: .int .i64 ps.length :: u44 :: u45 :: u46 :: u47 :: u48 :: u49 :: u50 :: u51 :: u52 :: u53 :: u54 :: u55 :: u56 :: u57 :: u58 :: u59 :: u60 :: u61 :: u62 :: u63 :: u64 :: u65 :: u66 :: u67 :: u68 :: u69 :: u70 :: u71 :: u72 :: u73 :: u74 :: u75 :: u76 :: u77 :: u78 :: u79 :: u80 :: u81 :: s82 :: []),[]⟩ w') :
 Code.wp Tryz.prog (Ziv Tryz.f64 1) Q0 ⟨List.toArray (s0 :: .slice wp ws.length wc :: s2 :: s3 :: s4 :: s5 :: s6 :: .pointer (some ⟨q,0,none⟩) :: s8 :: s9 :: s10 :: s11 :: s12 :: s13 :: s14 :: s15 :: s16 :: s17 :: s18 :: s19 :: s20 :: s21 :: s22 :: s23 :: s24 :: s25 :: s26 :: s27 :: s28 :: s29 :: s30 :: s31 :: s32 :: s33 :: s34 :: s35 :: s36 :: s37 :: s38 :: s39 :: s40 :: s41 :: .slice pp ps.length pc :: .int .i64 ps.length :: .int .i64 0 :: s45 :: s46 :: s47 :: s48 :: s49 :: s50 :: s51 :: s52 :: s53 :: s54 :: s55 :: s56 :: s57 :: s58 :: s59 :: s60 :: s61 :: s62 :: s63 :: s64 :: s65 :: s66 :: s67 :: s68 :: s69 :: s70 :: s71 :: s72 :: s73 :: s74 :: s75 :: s76 :: s77 :: s78 :: s79 :: s80 :: s81 :: s82 :: []),[]⟩ u:=by
 have HS0:=J hS;have HP:=J hP;have HW:=J hW;have HWS:=J hws;have HSL:=J hsl;have HU:=J hu;have HBU:=J hbu;have HOK:=J hok;have HEX:=J hexit;have HB0:=J hbw0;have HWL:=J hwl;clear hS hP hW hws hsl hu hbu hok hexit hbw0 hwl;refine Zcb (id:=2) ?_;conv=>arg 2; whnf
 go_loopw [44,1] (fun sk sw w'=>∃(k:Nat) (v:List Int) (s:List (List Int)) (rem:List Int) (rp:Option Addr) (rc:Nat),sk=.int .i64 k∧sw=.slice rp rem.length rc∧k≤ps.length∧Lz ps v0 z0 ws=Lz (ps.drop k) v s rem∧v.length=v0.length∧s.map List.length=z0.map List.length∧Lv w (.slice rp rem.length rc) rem∧rem.length=Xe (ps.drop k)∧(∀ n ∈ rem,0≤n∧n<18446744073709551616)∧Gn w0 w' { x with v:=v,s:=s } q lo hi lg bp sp op bc sc oc gs B∧Sx lo hi u w'∧IOk { x with v:=v,s:=s }) (fun sk _ _=>ps.length-(intOf sk).toNat)
 case atStart=>exact⟨0,v0,z0,ws,wp,wc,rfl,rfl,by omega,rfl,rfl,rfl,G HW,G HWL,G HWS,G HU,Kx _ _ _,G HOK⟩
 case round =>
  obtain⟨k,v,s,rem,rp,rc,rfl,rfl,hk,hpar,hvl,hsl2,hrem,hrl,hrw,hF,hO,hok⟩:=hrel;by_cases hk2:k<ps.length
  ·
   clear HEX HU HW HWS HWL HOK;have hsz:=hO.size;obtain⟨p',c',e1,-,-,hcc⟩:=G HS0;injection e1 with f1 f2 f3;obtain⟨sb,so,hsp,hsb,hcell⟩:=hcc (by omega);rw [← f1] at hsp;subst hsp;have hrg:=hcell k hk2;dsimp only at hrg;have ho:=G HP k hk2;have hdr:ps.drop k=ps.getD k (0,0) :: ps.drop (k+1):=by rw [List.drop_eq_getElem_cons hk2,Yu ps (0,0) k hk2]
   rw [hdr] at hpar hrl;generalize ps.getD k (0,0)=a at hrg ho hpar hrl;obtain⟨a1,a2⟩:=a;have HPAR:=J hpar;have HRL:=J hrl;have HVL:=J hvl;have HSL2:=J hsl2;clear hpar hrl;obtain⟨hw0,hw8,hf0,hov,hos⟩:=ho;simp only at hw0 hw8 hf0 hov hos;obtain⟨nw,rfl⟩:=Int.eq_ofNat_of_zero_le hw0;obtain⟨m,rfl⟩:=Int.eq_ofNat_of_zero_le hf0;have hup:∀ j y,#[Value.int .i64 (nw:Int),.int .i64 (m:Int)].toList[j]?=some y→wr.cell? ⟨sb,so+k*2+j,none⟩=some y:=fun j y hy=>by
    have h1:=hrg j y hy;have h2:=((G HB0).cell (p:=⟨sb,so+k*2+j,none⟩) hsb).trans h1;have h3:=((G HBU).cell (p:=⟨sb,so+k*2+j,none⟩) (World.block_lt_of_cell? _ _ h2)).trans h2;have hb1:=(G HB0).size;have hb2:=(G HBU).size;exact(World.cell?_of_block (hO.oth sb (by omega) (Or.inl (by omega)))).trans h3
   have d0:=hup 0 _ rfl;have d1:=hup 1 _ rfl;rw [Nat.add_zero] at d0;clear hcc hcell hrg f1 f2 f3 hup hdr;obtain⟨hra,hba,-⟩:=Yj wr (.cells #[.int .i64 (nw:Int),.int .i64 (m:Int)] 99 (0,0));have HFR:=J hF;have HO:=J hO;have hhs:=hF.hs;clear hF hO;go_upto_region 10 with fail
   clear d0 d1;generalize World.alloc wr _=V1 at hra hba ⊢;have HF1:=J (Yk (G HFR) hba);have HBA:=J hba;generalize wr.heap.size=ba at hra hhs ⊢;clear hba;by_cases hz:nw=0
   ·
    subst hz;have hml:m<v.length:=by have:=hov rfl; omega
    have hr1:1≤rem.length:=by rw [G HRL]; simp [Xe]
    have hr0:0<rem.length:=hr1;clear hvl hsl2;obtain⟨p2,c2,e2,hcap,hsh,hcells⟩:=hrem;injection e2 with g1 g2 g3;subst g1 g3;obtain⟨wb,wo,hrp,hwc⟩:=hcells (by omega);subst hrp;have hy0:=hwc 0 (by omega);rw [Nat.add_zero] at hy0;obtain⟨y,hy⟩:∃ y,y=rem.getD 0 0:=⟨_,rfl⟩;rw [← hy] at hy0;have HY:=J hy;have HYM:=J (show y ∈ rem by rw [hy]; exact Kw (by omega) 0);have HRD:=J (Od (show Lv w (.slice (some ⟨wb,wo,none⟩) rem.length rc) rem from⟨_,_,rfl,hcap,hsh,fun _=>⟨wb,wo,rfl,hwc⟩⟩) (show 1≤rem.length by omega));have hwbl:wb<w.heap.size:=World.block_lt_of_cell? _ _ hy0;have hbz:=(G HBU).size;have hyr:wr.cell? ⟨wb,wo,none⟩=some (.int .u64 y):=(World.cell?_of_block ((G HO).oth wb (by omega) (Or.inl (by omega)))).trans (((G HBU).cell (p:=⟨wb,wo,none⟩) hwbl).trans hy0);have hyv:V1.cell? ⟨wb,wo,none⟩=some (.int .u64 y):=((G HBA).cell (p:=⟨wb,wo,none⟩) (World.block_lt_of_cell? _ _ hyr)).trans hyr;have a0:=cR hra 0;have HSA:=J (show(fun V=>V.heap[q]?=some (.cells #[.slice bp x.fn.blocks.length bc,.int .i64 x.b,.int .i64 x.i,.slice (some ⟨lg,0,none⟩) v.length v.length,.slice sp s.length sc,.slice op x.o.length oc] 177 (0,0))∧V.heap[ba]?=some (.cells #[.int .i64 0,.int .i64 (m:Int)] 99 (0,0))∧V.cell? ⟨wb,wo,none⟩=some (.int .u64 y)) V1.drew from⟨(G HF1).row,hra,hyv⟩);clear hra hov hos hy hcells hwc hy0 hyr hyv g2;go_upto_region 11 with fail
    clear a0;refine wp_region_held_drew (S:=fun V=>V.heap[q]?=some (.cells #[.slice bp x.fn.blocks.length bc,.int .i64 x.b,.int .i64 x.i,.slice (some ⟨lg,0,none⟩) v.length v.length,.slice sp s.length sc,.slice op x.o.length oc] 177 (0,0))∧V.heap[ba]?=some (.cells #[.int .i64 0,.int .i64 (m:Int)] 99 (0,0))∧V.cell? ⟨wb,wo,none⟩=some (.int .u64 y)) (by kernel_rfl) (G HSA) (fun hHeld=>?_);refine tX 0 ?_;simp only [Act.put,zA,zB,zC,zD,zE];refine tX 1 ?_;simp only [Act.put,zA,zB,zC,zD,zE,zF];refine tX 2 ?_;simp only [Act.put,zA,zB,zC,zD,zE,zF];refine wpAnyH_take (i:=3) (v:=?va3) rfl (by kernel_rfl) (by kernel_rfl) (by kernel_rfl) (fun _ _ _ h=>h) (Or.inl ⟨by rfl,?hya3⟩) (by assumption) ?_;case hya3 =>
     intro V hV;obtain⟨g0,g1,g2⟩:=hV;have c:=cR g0 3;clear g0 g1;go_simp;all_goals (with_reducible rfl)
    simp only [Act.put,zA,zB,zC,zD,zE,zF];refine tX 4 ?_;simp only [Act.put,zA,zB,zC,zD,zE,zF];refine wpAnyH_take (i:=5) (v:=?va5) rfl (by kernel_rfl) (by kernel_rfl) (by kernel_rfl) (fun _ _ _ h=>h) (Or.inl ⟨by rfl,?hya5⟩) (by assumption) ?_;case hya5 =>
     intro V hV;obtain⟨g0,g1,g2⟩:=hV;have c:=cR g1 1;clear g0 g1;go_simp;all_goals (with_reducible rfl)
    simp only [Act.put,zA,zB,zC,zD,zE,zF];refine tX 6 ?_;simp only [Act.put,zA,zB,zC,zD,zE,zF];refine tX 7 ?_;simp only [Act.put,zA,zB,zC,zD,zE,zF];refine tX 8 ?_;simp only [Act.put,zA,zB,zC,zD,zE,zF];refine tX 9 ?_;simp only [Act.put,zA,zB,zC,zD,zE,zF];have hF1:=G HF1;have c9:V1.drew.cell? ⟨lg,m,none⟩=some (.int .u64 (v.getD m 0)):=(Zi hF1.loc m).trans (by simp [uC,List.getD,hml]);have z9:=frozen_of_row _ _ m _ _ hF1.loc;have HX:=J (Zad (Yk hF1 (Below.refl V1.heap.size V1).drew) m y);have HO1:=J (Xi (G HO) (Xi (Jr (lo:=lo) (hi:=hi) (Za (G HBA) (Below.refl V1.heap.size V1).drew (G HBA).size)) (Ut V1.drew m (.int .u64 y) hF1.gl hF1.gh)));have hgq:=hF1.gq;have hgh:=hF1.gh;have hgl:=hF1.gl;clear hF1;refine tO 10 fun K hK=>?_;go_simp;refine hK.out _ _ (show _ from⟨(heap_setCell_other _ _ _ _ (Ne.symm hgq)).trans (G HSA).1,(heap_setCell_other _ _ _ _ (by show ba≠lg; omega)).trans (G HSA).2.1,(World.cell?_of_block (heap_setCell_other _ _ _ _ (by show wb≠lg; omega))).trans (G HSA).2.2⟩) (fun hHeld2=>?_);clear hK K hHeld hHeld2;try simp only [Act.put]
    refine wpAnyH_done (by kernel_rfl) ?_ _;clear c9 z9;go_wp2;go_roundw
    case rel =>
     refine⟨k+1,v.set m y,s,rem.drop 1,if rc=1 then some ⟨wb,wo,none⟩ else some ⟨wb,wo+1,none⟩,rc-1,by go_num,by rw [List.length_drop],by omega,?_,by simpa using G HVL,G HSL2,G HRD,?_,fun n hn=>hrw n (List.mem_of_mem_drop hn),G HX,G HO1,?_⟩
     ·
      rw [G HPAR,G HY];rfl
     ·
      rw [List.length_drop,G HRL];simp [Xe]
     ·
      exact⟨fun n hn=>by
       rcases List.mem_or_eq_of_mem_set hn with h | h
       ·
        exact hok.v n h
       ·
        rw [h]; exact hrw y (G HYM),hok.s⟩
    case measure=>simp [intOf]; omega
   ·
    have hzz:¬ ((nw:Int)=0):=by omega
    have zz:((nw:Int)==0)=false:=by simp; omega
    obtain⟨hsl1,hs8⟩:=hos hzz;have hsll:s.length=z0.length:=by have:=congrArg List.length hsl2; simpa using this
    have hml:m<s.length:=by omega
    obtain⟨s1,hsp1,hsc⟩:=Mm (G HF1) hml;subst hsp1;obtain⟨ga,hga⟩:∃ g,g=gs.getD m 0:=⟨_,rfl⟩;obtain⟨bs,hbs⟩:∃ l,l=s.getD m []:=⟨_,rfl⟩;have hgr:=((G HF1).each m hml).1;have hlo2:=((G HF1).each m hml).2;dsimp only at hsc hgr;have hbl:bs.length=(z0.getD m []).length:=by
     have:=congrArg (fun l=>l.getD m 0) hsl2;simp [List.getD,hml,show m<z0.length by omega] at this;rw [hbs];simp [List.getD,hml,show m<z0.length by omega,this]
    have hb65:bs.length≤65536:=by rw [hbl]; exact G HSL _ (by simp [List.getD,show m<z0.length by omega])
    rw [Int.toNat_natCast,← hbl] at hs8;rw [← hga,← hbs] at hsc hgr;rw [← hga] at hlo2;have HNE:=J (show q≠ga∧ba≠ga∧s1≠ga from⟨Zs (G HF1).row hgr (by decide),Zs hra hgr (by decide),Ji (G HF1) hgr (by decide) s1 rfl⟩);have hrn:nw≤rem.length:=by rw [G HRL]; simp [Xe,hz]
    obtain⟨p2,c2,e2,hcap,hsh,hcells⟩:=hrem;injection e2 with g1 g2 g3;subst g1 g3;obtain⟨wb,wo,hrp,hwc⟩:=hcells (by omega);subst hrp;have hrem2:Lv w (.slice (some ⟨wb,wo,none⟩) rem.length rc) rem:=⟨_,_,rfl,hcap,hsh,fun _=>⟨wb,wo,rfl,hwc⟩⟩;have HRD:=J (Od hrem2 hrn);have hnrc:nw≤rc:=by omega
    have htk:(rem.take nw).length=nw:=by simp; omega
    have hbz:=(G HBU).size;have hLV:Lv V1.drew (.slice (some ⟨wb,wo,none⟩) nw rc) (rem.take nw):=by
     refine⟨_,_,by rw [htk],by omega,by omega,fun _=>⟨wb,wo,rfl,fun i hi=>?_⟩⟩;rw [htk] at hi;have h1:=hwc i (by omega);have hwbl:wb<w.heap.size:=World.block_lt_of_cell? _ _ h1;have h2:wr.cell? ⟨wb,wo+i,none⟩=some (.int .u64 (rem.getD i 0)):=(World.cell?_of_block ((G HO).oth wb (by omega) (Or.inl (by omega)))).trans (((G HBU).cell (p:=⟨wb,wo+i,none⟩) hwbl).trans h1);have h3:V1.cell? ⟨wb,wo+i,none⟩=some (.int .u64 (rem.getD i 0)):=((G HBA).cell (p:=⟨wb,wo+i,none⟩) (World.block_lt_of_cell? _ _ h2)).trans h2;refine h3.trans ?_;simp [List.getD,hi]
    have HFC:=J (show Calls Tryz.prog 81 #[.pointer (some ⟨q,0,none⟩),.slice (some ⟨ga,0,none⟩) bs.length bs.length,.slice (some ⟨wb,wo,none⟩) nw rc] V1.drew (fun e w'=>(∃ v,e=.returned v)∧w'.heap[ga]?=some (.cells (yC (Rj bs (rem.take nw))).toArray 5 (0,0))∧Ok ga V1.drew w') from by
     have h:=Znq q ga bs (rem.take nw) (some ⟨wb,wo,none⟩) rc V1.drew hgr (by rw [htk]; exact hLV) (by rw [htk]; omega) hb65;rw [htk] at h;exact h)
    have a0:=cR hra 0;have HSB:=J (show(fun V=>V.heap[q]?=some (.cells #[.slice bp x.fn.blocks.length bc,.int .i64 x.b,.int .i64 x.i,.slice (some ⟨lg,0,none⟩) v.length v.length,.slice (some ⟨s1,0,none⟩) s.length sc,.slice op x.o.length oc] 177 (0,0))∧V.heap[ba]?=some (.cells #[.int .i64 (nw:Int),.int .i64 (m:Int)] 99 (0,0))∧V.cell? ⟨s1,m,none⟩=some (.slice (some ⟨ga,0,none⟩) bs.length bs.length)) V1.drew from⟨(G HF1).row,hra,hsc⟩);have HGA:=J hga;have HBS:=J hbs.symm;have HGL:=J hlo2;have HBY:=J (show ∀ n ∈ bs,0≤n∧n<256 from fun n hn=>hok.s bs (by show bs ∈ s; rw [hbs]; simp [List.getD,hml]) n hn);clear hra hov hos hcells hwc g2 hrem2 htk hLV hgr hsc hga hbs hlo2 hbl hsll hsl1 hsl2 hvl;go_upto_region 13 with fail
    clear a0;refine wp_region_held_drew (S:=fun V=>V.heap[q]?=some (.cells #[.slice bp x.fn.blocks.length bc,.int .i64 x.b,.int .i64 x.i,.slice (some ⟨lg,0,none⟩) v.length v.length,.slice (some ⟨s1,0,none⟩) s.length sc,.slice op x.o.length oc] 177 (0,0))∧V.heap[ba]?=some (.cells #[.int .i64 (nw:Int),.int .i64 (m:Int)] 99 (0,0))∧V.cell? ⟨s1,m,none⟩=some (.slice (some ⟨ga,0,none⟩) bs.length bs.length)) (by kernel_rfl) (G HSB) (fun hHeld=>?_);refine tX 0 ?_;simp only [Act.put,zA,zB,zC,zD,zE];refine tX 1 ?_;simp only [Act.put,zA,zB,zC,zD,zE,zF];refine tX 2 ?_;simp only [Act.put,zA,zB,zC,zD,zE,zF];refine tX 3 ?_;simp only [Act.put,zA,zB,zC,zD,zE,zF];refine wpAnyH_take (i:=4) (v:=?vb4) rfl (by kernel_rfl) (by kernel_rfl) (by kernel_rfl) (fun _ _ _ h=>h) (Or.inl ⟨by rfl,?hyb4⟩) (by assumption) ?_;case hyb4 =>
     intro V hV;obtain⟨g0,g1,g2⟩:=hV;have c:=cR g0 4;clear g0 g1;go_simp;all_goals (with_reducible rfl)
    simp only [Act.put,zA,zB,zC,zD,zE,zF];refine tX 5 ?_;simp only [Act.put,zA,zB,zC,zD,zE,zF];refine wpAnyH_take (i:=6) (v:=?vb6) rfl (by kernel_rfl) (by kernel_rfl) (by kernel_rfl) (fun _ _ _ h=>h) (Or.inl ⟨by rfl,?hyb6⟩) (by assumption) ?_;case hyb6 =>
     intro V hV;obtain⟨g0,g1,g2⟩:=hV;have c:=cR g1 1;clear g0 g1;go_simp;all_goals (with_reducible rfl)
    simp only [Act.put,zA,zB,zC,zD,zE,zF];refine tX 7 ?_;simp only [Act.put,zA,zB,zC,zD,zE,zF];refine tX 8 ?_;simp only [Act.put,zA,zB,zC,zD,zE,zF];refine tX 9 ?_;simp only [Act.put,zA,zB,zC,zD,zE,zF];refine tX 10 ?_;simp only [Act.put,zA,zB,zC,zD,zE,zF];refine wpAnyH_take (i:=11) (v:=?vb11) rfl (by kernel_rfl) (by kernel_rfl) (by kernel_rfl) (fun _ _ _ h=>h) (Or.inl ⟨by rfl,?hyb11⟩) (by assumption) ?_;case hyb11 =>
     intro V hV;obtain⟨g0,g1,g2⟩:=hV;have c:=cR g1 0;clear g0 g1;go_simp;all_goals (with_reducible rfl)
    simp only [Act.put,zA,zB,zC,zD,zE,zF];refine tX 12 ?_;simp only [Act.put,zA,zB,zC,zD,zE,zF];refine tO 13 fun K hK=>?_;go_simp;refine(G HFC).mono ?_;rintro e w5 ⟨⟨xv,rfl⟩,hg5,hO5⟩;have hne:=G HNE;have HX:=J (show Gn w0 w5 { x with v:=v,s:=s.set m (Rj bs (rem.take nw)) } q lo hi lg bp (some ⟨s1,0,none⟩) op bc sc oc gs B from Zli (Yk (G HF1) (Below.refl V1.heap.size V1).drew) hml (by rw [G HBS]; exact Sc _ _) (by rw [← G HGA]; exact hg5) (by rw [← G HGA]; exact hO5));have HO1:=J (Xi (G HO) (Xi (Jr (lo:=lo) (hi:=hi) (Za (G HBA) (Below.refl V1.heap.size V1).drew (G HBA).size)) (Zlh hO5 (G HGL).1 (G HGL).2)));have hS5:(fun V=>V.heap[q]?=some (.cells #[.slice bp x.fn.blocks.length bc,.int .i64 x.b,.int .i64 x.i,.slice (some ⟨lg,0,none⟩) v.length v.length,.slice (some ⟨s1,0,none⟩) s.length sc,.slice op x.o.length oc] 177 (0,0))∧V.heap[ba]?=some (.cells #[.int .i64 (nw:Int),.int .i64 (m:Int)] 99 (0,0))∧V.cell? ⟨s1,m,none⟩=some (.slice (some ⟨ga,0,none⟩) bs.length bs.length)) w5:=⟨(hO5.oth q hne.1).trans (G HSB).1,(hO5.oth ba hne.2.1).trans (G HSB).2.1,(World.cell?_of_block (hO5.oth s1 hne.2.2)).trans (G HSB).2.2⟩;have b0:=cR hS5.2.1 0;refine hK.out _ _ hS5 (fun hHeld2=>?_);clear hK K hHeld hHeld2 hS5 hg5 hO5 hne;try simp only [Act.put,zA,zB,zC,zD,zE,zF]
    refine wpAnyH_done (by kernel_rfl) ?_ _;go_wp2;go_roundw
    case rel =>
     refine⟨k+1,v,s.set m (Rj bs (rem.take nw)),rem.drop nw,if rc=nw then some ⟨wb,wo,none⟩ else some ⟨wb,wo+nw,none⟩,rc-nw,by go_num,by rw [List.length_drop],by omega,?_,G HVL,?_,G HRD,?_,fun n hn=>hrw n (List.mem_of_mem_drop hn),G HX,G HO1,?_⟩
     ·
      rw [G HPAR,← G HBS];show(if (nw:Int)=0 then _ else _)=_;rw [if_neg (by omega)];simp
     ·
      rw [Oq _ _ _ (by rw [G HBS]; exact Sc _ _)]; exact G HSL2
     ·
      rw [List.length_drop,G HRL];simp [Xe,hz]
     ·
      exact⟨hok.v,fun l hl n hn=>by
       rcases List.mem_or_eq_of_mem_set hl with h | h
       ·
        exact hok.s l h n hn
       ·
        rw [h] at hn; exact Zcs (G HBY) _ n hn⟩
    case measure=>simp [intOf]; omega
  ·
   have hkn:k=ps.length:=by omega
   subst hkn;rw [List.drop_length] at hpar;have HX:=J (G HEX wr (by rw [hpar]; exact hF) hO (by rw [hpar]; exact hok));clear hF hO;go_wp2_with fail
   exact⟨rfl,G HX _ _ _ _ _ _ _ _ _ _ _ _ _ _ _ _ _ _ _ _ _ _ _ _ _ _ _ _ _ _ _ _ _ _ _ _ _ _ _ _⟩
set_option maxHeartbeats 8000000 in
set_option maxRecDepth 100000 in
theorem Zdy (w0 w:World)(fn:Zn)(ws outs:List Int)(pp qh qs qb wp op:Option Addr)(pc ch cs cb wc oc:Nat)(B:Nat→Value)(hD:Ng w0 fn (.slice pp fn.params.length pc) (.slice qh fn.homes.length ch) (.slice qs fn.slots.length cs) (.slice qb fn.blocks.length cb) B)(hbw0:Below w0.heap.size w0 w)(hW:Lv w (.slice wp ws.length wc) ws)(hOu:Li w0 (.slice op outs.length oc) outs)
 (hP:∀ k,k<fn.params.length→Ziw (List.replicate fn.homes.length 0) (fn.slots.map fun n=>List.replicate (8*n).toNat 0) (fn.params.getD k (0,0))) (hns:∀ k,k<fn.slots.length→0≤fn.slots.getD k 0∧fn.slots.getD k 0≤8) (hnl:fn.slots.length≤6) (hpl:fn.params.length≤8) (hhl:fn.homes.length≤12) (hwl:ws.length=Xe fn.params) (hws:∀ n ∈ ws,0≤n∧n<18446744073709551616) :
 Calls Tryz.prog 64 #[.agg #[.slice pp fn.params.length pc,.int .i64 fn.results,.slice qh fn.homes.length ch,.slice qs fn.slots.length cs,.slice qb fn.blocks.length cb],.slice wp ws.length wc,.slice op outs.length oc] w fun e w'=>∃ q lo hi lg sp sc gs,e=.returned (.pointer (some ⟨q,0,none⟩))∧w.heap.size≤lo∧Gn w0 w' (Jj fn ws outs) q lo hi lg qb sp op cb sc oc gs B∧Below w.heap.size w w'∧IOk (Jj fn ws outs):=by
 obtain⟨r0,hb0,hz0⟩:=Yj w (.cells #[.slice pp fn.params.length pc,.int .i64 fn.results,.slice qh fn.homes.length ch,.slice qs fn.slots.length cs,.slice qb fn.blocks.length cb] 60 (0,0));have HD:=J hD;have HOU:=J hOu;have HP:=J hP;have HNS:=J hns;have HWL:=J hwl;have HWS:=J hws;have HLW:=J (Yx hW hb0);have HMK:=fun V=>mkU fn.homes.length (by omega) V;have HB0:=J hbw0;have HBW:=J hb0;have HZ0:=J hz0;have HS0:=J r0;clear hD hOu hP hns hwl hws hW r0 hb0 hz0 hbw0;go_enter Tryz.func64,Tryz.ntmps64
 go_upto_region 1 with fail
 generalize World.alloc w _=W at HLW HBW HZ0 HS0 ⊢;have HS:=J (show(fun V=>V.heap[w.heap.size]?=some (.cells #[.slice pp fn.params.length pc,.int .i64 fn.results,.slice qh fn.homes.length ch,.slice qs fn.slots.length cs,.slice qb fn.blocks.length cb] 60 (0,0))) W.drew from G HS0);refine wp_region_held_drew (S:=fun V=>V.heap[w.heap.size]?=some (.cells #[.slice pp fn.params.length pc,.int .i64 fn.results,.slice qh fn.homes.length ch,.slice qs fn.slots.length cs,.slice qb fn.blocks.length cb] 60 (0,0))) (by kernel_rfl) (G HS) (fun hHeld=>?_);refine wpAnyH_take (i:=0) (v:=?v0) rfl (by kernel_rfl) (by kernel_rfl) (by kernel_rfl) (fun _ _ _ h=>h) (Or.inl ⟨by rfl,?hy0⟩) (by assumption) ?_;case hy0 =>
  intro V hV;try dsimp only at hV
  clear hV;go_simp;all_goals (with_reducible rfl)
 simp only [Act.put,zA,zB,zC,zD,zE];refine wpAnyH_take (i:=1) (v:=?v1) rfl (by kernel_rfl) (by kernel_rfl) (by kernel_rfl) (fun _ _ _ h=>h) (Or.inl ⟨by rfl,?hy1⟩) (by assumption) ?_;case hy1 =>
  intro V hV;try dsimp only at hV
  have c:=cR hV 4;clear hV;go_simp;all_goals (with_reducible rfl)
 simp only [Act.put,zA,zB,zC,zD,zE,zF];refine wpAnyH_take (i:=2) (v:=?v2) rfl (by kernel_rfl) (by kernel_rfl) (by kernel_rfl) (fun _ _ _ h=>h) (Or.inl ⟨by rfl,?hy2⟩) (by assumption) ?_;case hy2 =>
  intro V hV;try dsimp only at hV
  clear hV;go_simp;all_goals (with_reducible rfl)
 simp only [Act.put,zA,zB,zC,zD,zE,zF];refine wpAnyH_take (i:=3) (v:=?v3) rfl (by kernel_rfl) (by kernel_rfl) (by kernel_rfl) (fun _ _ _ h=>h) (Or.inl ⟨by rfl,?hy3⟩) (by assumption) ?_;case hy3 =>
  intro V hV;try dsimp only at hV
  have c:=cR hV 2;clear hV;go_simp;all_goals (with_reducible rfl)
 simp only [Act.put,zA,zB,zC,zD,zE,zF];refine wpAnyH_take (i:=4) (v:=?v4) rfl (by kernel_rfl) (by kernel_rfl) (by kernel_rfl) (fun _ _ _ h=>h) (Or.inl ⟨by rfl,?hy4⟩) (by assumption) ?_;case hy4 =>
  intro V hV;try dsimp only at hV
  clear hV;go_simp;all_goals (with_reducible rfl)
 simp only [Act.put,zA,zB,zC,zD,zE,zF];refine wpAnyH_take (i:=6) (v:=?v6) rfl (by kernel_rfl) (by kernel_rfl) (by kernel_rfl) (fun _ _ _ h=>h) (Or.inl ⟨by rfl,?hy6⟩) (by assumption) ?_;case hy6 =>
  intro V hV;try dsimp only at hV
  clear hV;go_simp;all_goals (with_reducible rfl)
 simp only [Act.put,zA,zB,zC,zD,zE,zF];refine tO 5 fun K hK=>?_;go_simp;obtain⟨r1,b1,z1⟩:=Yj W (.cells (uC (List.replicate fn.homes.length 0)).toArray 62 (0,0));have hS1:(fun V=>V.heap[w.heap.size]?=some (.cells #[.slice pp fn.params.length pc,.int .i64 fn.results,.slice qh fn.homes.length ch,.slice qs fn.slots.length cs,.slice qb fn.blocks.length cb] 60 (0,0))) (W.alloc (.cells (uC (List.replicate fn.homes.length 0)).toArray 62 (0,0))).drew:=(b1.block _ (Zd (G HS))).trans (G HS);refine hK.out _ _ hS1 (fun hHeld2=>?_);clear hK K;try simp only [Act.put,zA,zB,zC,zD,zE,zF]
 refine wpAnyH_take (i:=7) (v:=?v7) rfl (by kernel_rfl) (by kernel_rfl) (by kernel_rfl) (fun _ _ _ h=>h) (Or.inl ⟨by rfl,?hy7⟩) (by assumption) ?_;case hy7 =>
  intro V hV;try dsimp only at hV
  clear hV;go_simp;all_goals (with_reducible rfl)
 simp only [Act.put,zA,zB,zC,zD,zE,zF];refine tO 8 fun K hK=>?_;go_simp;obtain⟨r2,b2,z2⟩:=Yj (W.alloc (.cells (uC (List.replicate fn.homes.length 0)).toArray 62 (0,0))) (.cells #[.slice qb fn.blocks.length cb,.int .i64 0,.int .i64 0,.slice (some ⟨W.heap.size,0,none⟩) fn.homes.length fn.homes.length,.slice none 0 0,.slice op outs.length oc] 177 (0,0));have hS2:(fun V=>V.heap[w.heap.size]?=some (.cells #[.slice pp fn.params.length pc,.int .i64 fn.results,.slice qh fn.homes.length ch,.slice qs fn.slots.length cs,.slice qb fn.blocks.length cb] 60 (0,0))) ((W.alloc (.cells (uC (List.replicate fn.homes.length 0)).toArray 62 (0,0))).alloc (.cells #[.slice qb fn.blocks.length cb,.int .i64 0,.int .i64 0,.slice (some ⟨W.heap.size,0,none⟩) fn.homes.length fn.homes.length,.slice none 0 0,.slice op outs.length oc] 177 (0,0))).drew:=(b2.block _ (Zd hS1)).trans hS1;refine hK.out _ _ hS2 (fun hHeld3=>?_);clear hK K;try simp only [Act.put,zA,zB,zC,zD,zE,zF]
 refine wpAnyH_take (i:=9) (v:=?v9) rfl (by kernel_rfl) (by kernel_rfl) (by kernel_rfl) (fun _ _ _ h=>h) (Or.inl ⟨by rfl,?hy9⟩) (by assumption) ?_;case hy9 =>
  intro V hV;try dsimp only at hV
  clear hV;go_simp;all_goals (with_reducible rfl)
 simp only [Act.put,zA,zB,zC,zD,zE,zF];refine wpAnyH_done (by kernel_rfl) ?_ _;clear hHeld hHeld2 hHeld3;rw [z1] at r2 z2;have hr1:=(b2.block _ (Zd r1)).trans r1;have hB3:Below W.heap.size W ((W.alloc (.cells (uC (List.replicate fn.homes.length 0)).toArray 62 (0,0))).alloc (.cells #[.slice qb fn.blocks.length cb,.int .i64 0,.int .i64 0,.slice (some ⟨W.heap.size,0,none⟩) fn.homes.length fn.homes.length,.slice none 0 0,.slice op outs.length oc] 177 (0,0))).drew:=(Za b1 b2 (by omega)).drew;have HF:=J (show Gn w0 ((W.alloc (.cells (uC (List.replicate fn.homes.length 0)).toArray 62 (0,0))).alloc (.cells #[.slice qb fn.blocks.length cb,.int .i64 0,.int .i64 0,.slice (some ⟨W.heap.size,0,none⟩) fn.homes.length fn.homes.length,.slice none 0 0,.slice op outs.length oc] 177 (0,0))).drew ⟨fn,0,0,List.replicate fn.homes.length 0,[],outs⟩ (W.heap.size+1) W.heap.size ((W.alloc (.cells (uC (List.replicate fn.homes.length 0)).toArray 62 (0,0))).alloc (.cells #[.slice qb fn.blocks.length cb,.int .i64 0,.int .i64 0,.slice (some ⟨W.heap.size,0,none⟩) fn.homes.length fn.homes.length,.slice none 0 0,.slice op outs.length oc] 177 (0,0))).drew.heap.size W.heap.size qb none op cb 0 oc [] B from
  ⟨by omega,by show _<((W.alloc (.cells (uC (List.replicate fn.homes.length 0)).toArray 62 (0,0))).alloc (.cells #[.slice qb fn.blocks.length cb,.int .i64 0,.int .i64 0,.slice (some ⟨W.heap.size,0,none⟩) fn.homes.length fn.homes.length,.slice none 0 0,.slice op outs.length oc] 177 (0,0))).heap.size; omega,by omega,by show _<((W.alloc (.cells (uC (List.replicate fn.homes.length 0)).toArray 62 (0,0))).alloc (.cells #[.slice qb fn.blocks.length cb,.int .i64 0,.int .i64 0,.slice (some ⟨W.heap.size,0,none⟩) fn.homes.length fn.homes.length,.slice none 0 0,.slice op outs.length oc] 177 (0,0))).heap.size; omega,by omega,Nat.le_refl _,by simp only [List.length_replicate,List.length_nil]; exact r2,hr1,World.ownsRow_nil _ _ _ _,fun g e=>(by cases e),rfl,fun k hk=>(by simp at hk),fun j k _ hk=>(by simp at hk),(G HD).bs,(G HD).each,G HOU⟩)
 have HB3:=J hB3;have HS3:=J hS2;clear r1 b1 z1 r2 b2 z2 hS1 hS2 hr1 hB3;generalize World.drew (World.alloc (World.alloc W _) _)=V3 at HF HB3 HS3 ⊢;have f3:=cR (G HS3) 3;have HB0W:=J (Za (G HB0) (G HBW) (G HB0).size);go_wp2_with fail
 clear f3;refine Zqa w0 W V3 ⟨fn,0,0,List.replicate fn.homes.length 0,[],outs⟩ (W.heap.size+1) W.heap.size W.heap.size qb op qs cb oc cs fn.slots B _ _ _ _ _ _ _ _ _ _ _ _ _ _ _ _ _ _ _ _ _ _ _ _ _ _ _ _ _ _ _ _ _ _ _ _ _ _ _ _ _ _ _ _ _ _ _ _ _ _ _ _ _ _ _ _ _ _ _ _ _ _ _ _ _ _ _ _ _ _ _ _ _ _ _ _ _ _ _ _ rfl rfl (G HB0W) (G HD).ss (G HNS) hnl (G HF) (G HB3) ?_;intro w1 sp sc gs hF1 hb1 u9 u24 u25 u26 u27 u28 u29 u30 u31 u32 u33 u34 u35 u36 u37 u38 u39 u40;rw [List.take_length] at hF1;have hzb:=G HZ0;have hs1:=(hb1.block w.heap.size (by omega)).trans (G HS0);have f0:=cR hs1 0;have HF1:=J hF1;have HB1:=J hb1;clear hF1 hb1 hs1 HF HB3 HS3 hzb;go_wp2_with fail
 clear f0;refine Zqb w0 W w1 ⟨fn,0,0,List.replicate fn.homes.length 0,[],outs⟩ (W.heap.size+1) W.heap.size w1.heap.size W.heap.size qb sp op pp wp cb sc oc pc wc gs B fn.params ws (List.replicate fn.homes.length 0) (fn.slots.map fun n=>List.replicate (8*n).toNat 0) _ _ _ _ _ _ _ _ _ _ _ _ _ _ _ _ _ _ _ _ _ _ _ _ _ _ _ _ _ _ _ _ _ _ _ _ _ _ _ _ _ _ _ _ _ _ _ _ _ _ _ _ _ _ _ _ _ _ _ _ _ _ _ _ _ _ _ _ _ _ _ _ _ _ _ _ _ _ _ (Nat.le_refl _) (G HB0W) (G HD).ps hpl (G HP) (G HLW) (G HWL) (G HWS) ?s1 (G HF1) (G HB1) ?s2 ?_;case s1 =>
  intro l hl;obtain⟨n,hn,rfl⟩:=List.mem_map.1 hl;obtain⟨i,hi,hi2⟩:=List.getElem_of_mem hn;have:=G HNS i hi;rw [Yu fn.slots 0 i hi,hi2] at this;simp
  omega
 case s2 =>
  refine⟨fun n hn=>?_,fun l hl n hn=>?_⟩
  ·
   rw [List.eq_of_mem_replicate hn]; omega
  ·
   obtain⟨k,-,rfl⟩:=List.mem_map.1 hl;rw [List.eq_of_mem_replicate hn]; omega
 intro w2 hF2 hO2 hok2 u1 u11 u44 u45 u46 u47 u48 u49 u50 u51 u52 u53 u54 u55 u56 u57 u58 u59 u60 u61 u62 u63 u64 u65 u66 u67 u68 u69 u70 u71 u72 u73 u74 u75 u76 u77 u78 u79 u80 u81;have hz:=G HZ0;have HF2:=J hF2;have HOK2:=J hok2;have HB2:=J (show Below w.heap.size w w2 by
  have h1:=Za (G HBW) (G HB1) (by omega);have h1z:=h1.size;have h2:=(G HB1).size;exact⟨hO2.os.trans h1.os,hO2.tape.trans h1.tape,hO2.output.trans h1.output,Nat.le_trans h1z hO2.size,fun q hq=>(hO2.oth q (by omega) (Or.inl (by omega))).trans (h1.block q hq)⟩)
 clear hF2 hO2 hok2 HF1 HB1 hz;go_wp2;go_ret;have hz9:w.heap.size≤W.heap.size:=by have:=G HZ0; omega
 first
  | exact⟨W.heap.size+1,W.heap.size,_,_,_,_,_,rfl,hz9,G HF2,G HB2,G HOK2⟩
  | exact⟨W.heap.size+1,rfl,W.heap.size,hz9,⟨_,_,_,_,_,G HF2⟩,G HB2,G HOK2⟩
structure Yp (P:Zl):Prop where
 cnt:Yw P=true
 head:∃(r:Int) (own:List Int),∀ k,k<P.funcs.length→Yf r own (P.funcs.getD k Ze)=true
 body:∀ k,k<P.funcs.length→Gt P (P.funcs.getD k Ze)=true
 word:∀ f ∈ P.funcs,∀ l ∈ f.blocks,∀ i ∈ l,0≤i.n∧i.n<18446744073709551616
def FnG (P:Zl)(f:Zn):Prop:=∃ k,k<P.funcs.length∧f=P.funcs.getD k Ze
structure FnH (f:Zn):Prop where
 pl:f.params.length≤8
 pw:∀ k,k<f.params.length→0≤(f.params.getD k (0,0)).1∧(f.params.getD k (0,0)).1≤8∧Ye f (f.params.getD k (0,0))=true
 r0:0≤f.results
 r1:f.results≤4
 hl:f.homes.length≤12
 sl:f.slots.length≤6
 sw:∀ k,k<f.slots.length→1≤f.slots.getD k 0∧f.slots.getD k 0≤8
 b1:1≤f.blocks.length
 b12:f.blocks.length≤12
 bk:∀ k,k<f.blocks.length→1≤(f.blocks.getD k []).length∧(f.blocks.getD k []).length≤24
theorem Mw {n lo hi:Int}(h:Yi n lo hi=true):lo≤n∧n≤hi:=of_decide_eq_true h
theorem Gd {α β:Type}(l:List α)(f:α→β)(a:α)(b:β)(k:Nat)(h:k<l.length):(l.map f).getD k b=f (l.getD k a):=by simp [List.getD,h]
theorem Znr {r:Int}{own:List Int}{f:Zn}(h:Yf r own f=true):FnH f:=by
 unfold Yf Je Xn at h;simp only [Bool.and_eq_true,decide_eq_true_eq] at h;obtain⟨h1,⟨-,h2,h3⟩,h4,-,h5,h6,h7,h8,h9⟩:=h;have h2:=Mw h2;have h7:=Mw h7;refine⟨h1,fun k hk=>?_,h2.1,h2.2,h4,h5,fun k hk=>Mw (Xt h6 hk),by omega,by omega,fun k hk=>?_⟩
 ·
  have a:=Mw (Xt h3 (k:=k) (by simpa using hk));rw [Gd f.params (·.1) (0,0) 0 k hk] at a;have b:=Xt h9 hk;unfold Gh at b;simp only [Bool.and_eq_true] at b;exact⟨a.1,a.2,b.1⟩
 ·
  have a:=Mw (Xt h8 hk);omega
theorem Yp.fnH {P:Zl}(h:Yp P){f:Zn}(hf:FnG P f):FnH f:=by
 obtain⟨k,hk,rfl⟩:=hf;obtain⟨r,own,hh⟩:=h.head;exact Znr (hh k hk)
structure Zpe (P:Zl)(f:Zn)(i:Zw)(last:Bool):Prop where
 op0:1≤i.op
 op1:i.op≤18
 lst:decide (14≤i.op)=last
 fld:Zf P f i=true
 n0:0≤i.n
 n1:i.n<18446744073709551616
theorem Yp.insG {P:Zl}(h:Yp P){f:Zn}(hf:FnG P f){b i:Nat}(hb:b<f.blocks.length)(hi:i<(f.blocks.getD b []).length):Zpe P f ((f.blocks.getD b []).getD i Lt) (decide (i+1=(f.blocks.getD b []).length)):=by
 obtain⟨k,hk,rfl⟩:=hf;have hq:=Xt (Xt (h.body k hk) hb) hi;unfold Ki Xd at hq;simp only [Bool.and_eq_true,beq_iff_eq] at hq;obtain⟨h1,h2,-,h4⟩:=hq;have h1:=Mw h1;have hw:=h.word (P.funcs.getD k Ze) (by rw [Yu _ _ _ hk]; exact List.getElem_mem _) ((P.funcs.getD k Ze).blocks.getD b []) (by rw [Yu _ _ _ hb]; exact List.getElem_mem _) (((P.funcs.getD k Ze).blocks.getD b []).getD i Lt) (by rw [Yu _ _ _ hi]; exact List.getElem_mem _);exact⟨h1.1,h1.2,h2,h4,hw.1,hw.2⟩
section
variable {P:Zl} {f:Zn} {i:Zw}
theorem Uc (h:Zf P f i=true)(ho:i.op≤11∨i.op=15):0≤i.d∧i.d<f.homes.length:=by
 unfold Zf at h;repeat' split at h
 all_goals try (exfalso; omega)
 all_goals (simp only [Bool.and_eq_true,Zr,Yi,decide_eq_true_eq] at h; omega)
theorem Zfk (h:Zf P f i=true)(ho:2≤i.op∧i.op≤9):0≤i.a∧i.a<f.homes.length:=by
 unfold Zf at h;repeat' split at h
 all_goals try (exfalso; omega)
 all_goals (simp only [Bool.and_eq_true,Zr,Yi,decide_eq_true_eq] at h; omega)
theorem Zmu (h:Zf P f i=true)(ho:3≤i.op∧i.op≤9):0≤i.bb∧i.bb<f.homes.length:=by
 unfold Zf at h;repeat' split at h
 all_goals try (exfalso; omega)
 all_goals (simp only [Bool.and_eq_true,Zr,Yi,decide_eq_true_eq] at h; omega)
theorem Un (h:Zf P f i=true)(ho:i.op=10∨i.op=11):0≤i.a∧i.a<f.slots.length∧(i.n=1∨i.n=2∨i.n=4∨i.n=8)∧0≤i.bb∧i.bb+i.n≤8*f.slots.getD i.a.toNat 0:=by
 unfold Zf at h;repeat' split at h
 all_goals try (exfalso; omega)
 all_goals (simp only [Bool.and_eq_true,Zr,Nv,Np,Yi,decide_eq_true_eq] at h; refine⟨by omega,by omega,h.2.2.1,by omega,by omega⟩)
theorem Ca (h:Zf P f i=true)(ho:i.op=14∨i.op=15):0≤i.a∧i.a<f.blocks.length:=by
 unfold Zf at h;repeat' split at h
 all_goals try (exfalso; omega)
 all_goals (simp only [Bool.and_eq_true,Zr,Yi,decide_eq_true_eq] at h; omega)
theorem Ziz (h:Zf P f i=true)(ho:i.op=15):0≤i.bb∧i.bb<f.blocks.length:=by
 unfold Zf at h;repeat' split at h
 all_goals try (exfalso; omega)
 all_goals (simp only [Bool.and_eq_true,Zr,Yi,decide_eq_true_eq] at h; omega)
theorem Zfl (h:Zf P f i=true)(ho:i.op=16):(i.outs.length:Int)=f.results∧Xg f i.outs=true:=by
 unfold Zf at h;simp only [ho] at h;simpa using h
theorem Zja (h:Zf P f i=true)(ho:i.op=12):0≤i.f∧i.f<P.funcs.length∧Jh f i (Xn (P.funcs.getD i.f.toNat Ze))=true:=by
 unfold Zf at h;simp only [ho] at h;simp only [Int.reduceEq,if_false,or_self,if_true,Bool.and_eq_true,Yi,decide_eq_true_eq] at h;exact⟨h.1.1,by omega,h.2⟩
theorem Zlk (h:Zf P f i=true)(ho:i.op=13):0≤i.f∧i.f<P.externs.length∧Jh f i (P.externs.getD i.f.toNat ([],0))=true:=by
 unfold Zf at h;simp only [ho] at h;simp only [Int.reduceEq,if_false,or_self,if_true,Bool.and_eq_true,Yi,decide_eq_true_eq] at h;exact⟨h.1.1,by omega,h.2⟩
theorem Zjb (h:Zf P f i=true)(ho:i.op=17):0≤i.f∧i.f<P.funcs.length∧Mp f i (Xn (P.funcs.getD i.f.toNat Ze))=true:=by
 unfold Zf at h;simp only [ho] at h;simp only [Int.reduceEq,if_false,or_self,if_true,Bool.and_eq_true,Yi,decide_eq_true_eq] at h;exact⟨h.1.1,by omega,h.2⟩
theorem Ds {l:List Int}(h:Xg f l=true):∀ k,k<l.length→0≤l.getD k 0∧l.getD k 0<f.homes.length:=fun k hk=>by
 have:=Mw (Xt h hk);omega
end
structure Lp (P:Zl)(x:Xk):Prop where
 fn:FnG P x.fn
 b0:0≤x.b
 b1:x.b<x.fn.blocks.length
 i0:0≤x.i
 i1:x.i<(x.fn.blocks.getD x.b.toNat []).length
 v:x.v.length=x.fn.homes.length
 s:x.s.map List.length=x.fn.slots.map fun n=>(8*n).toNat
 ok:IOk x
section
variable {P:Zl} {x:Xk}
theorem Lp.slen (h:Lp P x):x.s.length=x.fn.slots.length:=by
 have:=congrArg List.length h.s;simpa using this
theorem Lp.slot (h:Lp P x){k:Nat}(hk:k<x.s.length):(x.s.getD k []).length=(8*x.fn.slots.getD k 0).toNat:=by
 have e:(x.s.map List.length).getD k 0=(x.fn.slots.map fun n=>(8*n).toNat).getD k 0:=by rw [h.s]
 rw [Gd x.s List.length [] 0 k hk,Gd x.fn.slots (fun n=>(8*n).toNat) 0 0 k (by rw [← h.slen]; exact hk)] at e;exact e
theorem Lp.small (h:Lp P x)(hG:Yp P):∀ l ∈ x.s,l.length≤65536:=fun l hl=>by
 obtain⟨k,hk,rfl⟩:=List.getElem_of_mem hl;have e:=h.slot hk;have:=(hG.fnH h.fn).sw k (by rw [← h.slen]; exact hk);rw [Yu x.s [] k hk] at e;omega
theorem Lp.insG (h:Lp P x)(hG:Yp P):Zpe P x.fn (Zo x) (decide (x.i.toNat+1=(x.fn.blocks.getD x.b.toNat []).length)):=by
 have h1:=h.b0;have h2:=h.b1;have h3:=h.i0;have h4:=h.i1;exact hG.insG h.fn (by omega) (by omega)
theorem Lp.next (h:Lp P x)(hG:Yp P)(ho:(Zo x).op<14):Lp P (Zp x):=by
 have hi:=(h.insG hG).lst;have h3:=h.i0;have h4:=h.i1;rw [decide_eq_false (by omega)] at hi;have hi:=of_decide_eq_false hi.symm;exact⟨h.fn,h.b0,h.b1,by show 0≤x.i+1; omega,by show x.i+1<_; unfold Zp; simp only; omega,h.v,h.s,⟨h.ok.v,h.ok.s⟩⟩
theorem Lp.at_ (h:Lp P x)(hG:Yp P){t:Int}(h0:0≤t)(h1:t<x.fn.blocks.length):Lp P { x with b:=t,i:=0 }:=by
 have:=(hG.fnH h.fn).bk t.toNat (by omega);exact⟨h.fn,h0,h1,Int.le_refl 0,by show(0:Int)<(x.fn.blocks.getD t.toNat []).length; omega,h.v,h.s,⟨h.ok.v,h.ok.s⟩⟩
theorem Rk {l:List Int}{k:Nat}{n m:Int}(h:m ∈ l.set k n):m ∈ l∨m=n:=by
 rcases List.mem_or_eq_of_mem_set h with h | h
 ·
  exact Or.inl h
 ·
  exact Or.inr h
theorem Lp.setV (h:Lp P x)(k:Nat){n:Int}(h0:0≤n)(h1:n<18446744073709551616):Lp P { x with v:=x.v.set k n } :=
 ⟨h.fn,h.b0,h.b1,h.i0,h.i1,by simp [h.v],h.s,⟨fun m hm=>by
  rcases Rk hm with hm | rfl
  ·
   exact h.ok.v m hm
  ·
   exact⟨h0,h1⟩,h.ok.s⟩⟩
theorem Mj {l:List Int}(h:∀ n ∈ l,0≤n∧n<18446744073709551616)(k:Nat):0≤l.getD k 0∧l.getD k 0<18446744073709551616:=by
 by_cases hk:k<l.length
 ·
  exact h _ (Kw hk 0)
 ·
  simp [List.getD,hk]
theorem Zjc {bs:List Int}(h:∀ n ∈ bs,0≤n∧n<256)(a k:Nat)(hk:k≤8):0≤Ns bs a k∧Ns bs a k<18446744073709551616:=by
 have:=Zbs (m:=fun i=>bs.getD i 0) (Rb h) k a;have:=Sa k hk;unfold Ns;omega
theorem Lp.bytes (h:Lp P x)(k:Nat):∀ n ∈ x.s.getD k [],0≤n∧n<256:=by
 by_cases hk:k<x.s.length
 ·
  rw [Yu _ _ _ hk]; exact h.ok.s _ (List.getElem_mem _)
 ·
  intro n hn; simp [List.getD,hk] at hn
theorem Zll {v ds vs:List Int}(hv:∀ n ∈ v,0≤n∧n<18446744073709551616)(hw:∀ n ∈ vs,0≤n∧n<18446744073709551616):∀ n ∈ Xp v ds vs,0≤n∧n<18446744073709551616:=by
 unfold Xp;induction ds generalizing v vs with
 | nil=>simpa using hv
 | cons d ds ih =>
  cases vs with
  | nil=>simpa using hv
  | cons a vs =>
   simp only [List.zip_cons_cons,List.foldl_cons];refine ih (fun n hn=>?_) (fun n hn=>hw n (List.mem_cons_of_mem _ hn));rcases Rk hn with hn | rfl
   ·
    exact hv n hn
   ·
    exact hw _ List.mem_cons_self
theorem Lp.setVs (h:Lp P x)(ds:List Int){vs:List Int}(hw:∀ n ∈ vs,0≤n∧n<18446744073709551616):Lp P { x with v:=Xp x.v ds vs } :=
 ⟨h.fn,h.b0,h.b1,h.i0,h.i1,by simp [Rf,h.v],h.s,⟨Zll h.ok.v hw,h.ok.s⟩⟩
theorem Lp.setS (h:Lp P x){k:Nat}{l:List Int}(hl:l.length=(x.s.getD k []).length)(hb:∀ n ∈ l,0≤n∧n<256):Lp P { x with s:=x.s.set k l } :=
 ⟨h.fn,h.b0,h.b1,h.i0,h.i1,h.v,by show(x.s.set k l).map List.length=_; rw [Oq _ _ _ hl,h.s],⟨h.ok.v,fun m hm=>by
  rcases List.mem_or_eq_of_mem_set hm with hm | rfl
  ·
   exact h.ok.s m hm
  ·
   exact hb⟩⟩
theorem Zjd (n:Int):0≤IntKind.u64.wrap n∧IntKind.u64.wrap n<18446744073709551616:=by
 have:IntKind.u64.wrap n=n % 18446744073709551616:=by simp [IntKind.wrap,IntKind.bits,IntKind.signed]
 omega
theorem Zlm (op a b:Int):0≤Mv op a b∧Mv op a b<18446744073709551616:=by
 unfold Mv;repeat' split
 all_goals first | exact Zjd _ | omega
theorem Lp.loc (h:Lp P x)(hG:Yp P)(h16:(Zo x).op<16):Lp P (Ld (Zp x) (Zo x)):=by
 have g:=h.insG hG;have hv:=h.ok.v;generalize hi:Zo x=i at g h16 ⊢;by_cases hj:i.op<14
 ·
  have hn:=h.next hG (by rw [hi]; exact hj);unfold Ld;repeat' split
  all_goals try (exfalso; omega)
  ·
   exact hn.setV _ g.n0 g.n1
  ·
   exact hn.setV _ (Mj hv _).1 (Mj hv _).2
  ·
   rename_i h10;have hs:=(Un g.fld (Or.inl h10)).2.2.1;have:=Zjc (h.bytes i.a.toNat) i.bb.toNat i.n.toNat (by omega);exact hn.setV _ this.1 this.2
  ·
   exact hn.setS (by rw [Rc]) (Zix (h.bytes i.a.toNat) _ _ _)
  ·
   have:=Zlm i.op (x.v.getD i.a.toNat 0) (x.v.getD i.bb.toNat 0);exact hn.setV _ this.1 this.2
 ·
  rcases(show i.op=14∨i.op=15 by omega) with h14 | h15
  ·
   have:=Ca g.fld (Or.inl h14);rw [show Ld (Zp x) i={ x with b:=i.a,i:=0 } by unfold Ld; simp [h14,Zp]];exact(h.at_ hG this.1 this.2)
  ·
   have:=Ca g.fld (Or.inr h15);have:=Ziz g.fld h15;rw [show Ld (Zp x) i={ x with b:=if x.v.getD i.d.toNat 0=0 then i.bb else i.a,i:=0 } by unfold Ld; simp [h15,Zp]];exact(h.at_ hG (t:=if x.v.getD i.d.toNat 0=0 then i.bb else i.a) (by split <;> omega) (by split <;> omega))
theorem Zje (x:Xk)(a:Int×Int):(Ib x a).length=if a.1=0 then 1 else a.1.toNat:=by
 unfold Ib;split <;> simp
theorem Mx (x:Xk):∀ l:List (Int×Int),(Zv x l).length=Xe l
 | []=>rfl
 | a :: l=>by
  show(Ib x a++Zv x l).length=(if a.1=0 then 1 else a.1.toNat)+Xe l;rw [List.length_append,Zje,Mx x l]
theorem Of:∀{l m:List (Int×Int)},l.map (·.1)=m.map (·.1)→Xe l=Xe m
 | [],[],_=>rfl
 | [],_ :: _,h=>by simp at h
 | _ :: _,[],h=>by simp at h
 | a :: l,b :: m,h=>by
  simp only [List.map_cons,List.cons.injEq] at h;show(if a.1=0 then 1 else a.1.toNat)+Xe l=(if b.1=0 then 1 else b.1.toNat)+Xe m;rw [h.1,Of h.2]
theorem Og (hok:IOk x)(l:List (Int×Int)):∀ n ∈ Zv x l,0≤n∧n<18446744073709551616:=fun n hn=>by
 obtain⟨a,-,ha⟩:=List.mem_flatMap.1 hn;unfold Ib at ha;split at ha
 ·
  rw [List.mem_singleton.1 ha]; exact Mj hok.v _
 ·
  obtain⟨k,-,rfl⟩:=List.mem_map.1 ha;refine Zjc ?_ _ _ (Nat.le_refl _);by_cases hk:a.2.toNat<x.s.length
  ·
   rw [Yu _ _ _ hk]; exact hok.s _ (List.getElem_mem _)
  ·
   intro n hn; simp [List.getD,hk] at hn
theorem Zcu (hok:IOk x)(l:List Int):∀ n ∈ Xf x.v l,0≤n∧n<18446744073709551616:=fun n hn=>by
 obtain⟨k,-,rfl⟩:=List.mem_map.1 hn;exact Mj hok.v _
theorem Zfm {f:Zn}(hv:x.v.length=f.homes.length)(hs:x.s.map List.length=f.slots.map fun n=>(8*n).toNat){a:Int×Int}(h:Ye f a=true)(h0:0≤a.1)(h8:a.1≤8):Rh x a:=by
 unfold Ye at h;have hsl:x.s.length=f.slots.length:=by have:=congrArg List.length hs; simpa using this
 split at h
 ·
  rename_i hz;have:=Mw h;exact⟨h0,h8,by omega,fun _=>by omega,fun hn=>absurd hz hn⟩
 ·
  rename_i hz;simp only [Bool.and_eq_true,decide_eq_true_eq] at h;have h1:=Mw h.1;have h2:=h.2;refine⟨h0,h8,h1.1,fun hn=>absurd hn hz,fun _=>⟨by omega,?_⟩⟩;have hk:a.2.toNat<x.s.length:=by omega
  have e:(x.s.map List.length).getD a.2.toNat 0=(f.slots.map fun n=>(8*n).toNat).getD a.2.toNat 0:=by rw [hs]
  rw [Gd x.s List.length [] 0 _ hk,Gd f.slots (fun n=>(8*n).toNat) 0 0 _ (by omega),h2] at e;omega
theorem Cb {f:Zn}{gs:List (Int×Int)}{ps:List Int}(h:Ju f gs ps=true):gs.map (·.1)=ps∧∀ k,k<gs.length→Ye f (gs.getD k (0,0))=true:=by
 unfold Ju at h;simp only [Bool.and_eq_true,decide_eq_true_eq] at h;obtain⟨h1,h2⟩:=h;have hq:∀ k,k<gs.length→(gs.getD k (0,0)).1=ps.getD k 0∧Ye f (gs.getD k (0,0))=true:=fun k hk=>by
  have:=Xt h2 hk;simpa using this
 refine⟨List.ext_getElem (by simpa using h1) fun k hk1 hk2=>?_,fun k hk=>(hq k hk).2⟩;have hk:k<gs.length:=by simpa using hk1
 have:=(hq k hk).1;rw [Yu gs _ k hk,Yu ps _ k hk2] at this;simpa using this
theorem Zbb {gs:List (Int×Int)}{ps:List Int}(h:Lp P x)(ha:Ju x.fn gs ps=true)(hp:∀ k,k<ps.length→0≤ps.getD k 0∧ps.getD k 0≤8)(hl:ps.length≤8):gs.length≤8∧∀ k,k<gs.length→Rh x (gs.getD k (0,0)):=by
 obtain⟨h1,h2⟩:=Cb ha;have hgl:gs.length=ps.length:=by rw [← h1]; simp
 refine⟨by omega,fun k hk=>?_⟩;have:=hp k (by omega);rw [← h1,Gd gs (·.1) (0,0) 0 k hk] at this;exact Zfm h.v h.s (h2 k hk) this.1 this.2
theorem Zbc {f:Zn}(hH:FnH f):(∀ k,k<(Xn f).1.length→0≤(Xn f).1.getD k 0∧(Xn f).1.getD k 0≤8)∧(Xn f).1.length≤8:=by
 unfold Xn;refine⟨fun k hk=>?_,by simpa using hH.pl⟩;have hk':k<f.params.length:=by simpa using hk
 simp only;rw [Gd f.params (·.1) (0,0) 0 k hk'];exact⟨(hH.pw k hk').1,(hH.pw k hk').2.1⟩
theorem Cc:∀(l:List (Int×Int)) (v:List Int) (s:List (List Int)) (ws:List Int),(Lz l v s ws).1.length=v.length∧(Lz l v s ws).2.map List.length=s.map List.length
 | [],v,s,ws=>⟨rfl,rfl⟩
 | p :: r,v,s,ws=>by
  unfold Lz;split
  ·
   have:=Cc r (v.set p.2.toNat (ws.getD 0 0)) s (ws.drop 1);simpa using this
  ·
   have:=Cc r v (s.set p.2.toNat (Rj (s.getD p.2.toNat []) (ws.take p.1.toNat))) (ws.drop p.1.toNat);exact⟨this.1,this.2.trans (Oq _ _ _ (Sc _ _))⟩
theorem Zbd:∀(l:List (Int×Int)) (v:List Int) (s:List (List Int)) (ws:List Int),(∀ n ∈ v,0≤n∧n<18446744073709551616)→(∀ l ∈ s,∀ n ∈ l,0≤n∧n<256)→(∀ n ∈ ws,0≤n∧n<18446744073709551616)→(∀ n ∈ (Lz l v s ws).1,0≤n∧n<18446744073709551616)∧∀ z ∈ (Lz l v s ws).2,∀ n ∈ z,0≤n∧n<256
 | [],v,s,ws,hv,hs,_=>⟨hv,hs⟩
 | p :: r,v,s,ws,hv,hs,hw=>by
  unfold Lz;split
  ·
   refine Zbd r _ s _ (fun n hn=>?_) hs (fun n hn=>hw n (List.mem_of_mem_drop hn));rcases Rk hn with hn | rfl
   ·
    exact hv n hn
   ·
    exact Mj hw 0
  ·
   refine Zbd r v _ _ hv (fun l hl=>?_) (fun n hn=>hw n (List.mem_of_mem_drop hn));rcases List.mem_or_eq_of_mem_set hl with hl | rfl
   ·
    exact hs l hl
   ·
    refine Zcs ?_ _;by_cases hk:p.2.toNat<s.length
    ·
     rw [Yu _ _ _ hk]; exact hs _ (List.getElem_mem _)
    ·
     intro n hn; simp [List.getD,hk] at hn
theorem Cd (hG:Yp P){f:Zn}(hf:FnG P f){ws:List Int}(hw:∀ n ∈ ws,0≤n∧n<18446744073709551616)(o:List Int):Lp P (Jj f ws o):=by
 have hH:=hG.fnH hf;have h1:=hH.b1;have h2:=hH.bk 0 (by omega);have hl:=Cc f.params (List.replicate f.homes.length 0) (f.slots.map fun n=>List.replicate (8*n).toNat 0) ws;have hb:=Zbd f.params (List.replicate f.homes.length 0) (f.slots.map fun n=>List.replicate (8*n).toNat 0) ws (fun n hn=>by rw [List.eq_of_mem_replicate hn]; omega) (fun l hl n hn=>by
  obtain⟨k,-,rfl⟩:=List.mem_map.1 hl;rw [List.eq_of_mem_replicate hn]; omega) hw
 exact⟨hf,Int.le_refl 0,by show(0:Int)<f.blocks.length; omega,Int.le_refl 0,by show(0:Int)<(f.blocks.getD 0 []).length; omega,by show(Lz _ _ _ _).1.length=f.homes.length; rw [hl.1]; simp,by show(Lz _ _ _ _).2.map List.length=f.slots.map _; rw [hl.2]; simp [List.map_map,Function.comp_def],⟨hb.1,hb.2⟩⟩
theorem Zjf {f:Zn}(hH:FnH f):∀ k,k<f.params.length→Ziw (List.replicate f.homes.length 0) (f.slots.map fun n=>List.replicate (8*n).toNat 0) (f.params.getD k (0,0)):=fun k hk=>by
 obtain⟨h0,h8,hs⟩:=hH.pw k hk;have:=Zfm (x:=⟨f,0,0,List.replicate f.homes.length 0,f.slots.map fun n=>List.replicate (8*n).toNat 0,[]⟩) (by simp) (by simp) hs h0 h8;exact⟨h0,h8,this.f0,this.v,this.s⟩
theorem Zcv {sc:List Int}(h:∀ n ∈ sc,0≤n∧n<18446744073709551616)(n:Nat):∀ m ∈ Yt sc n,0≤m∧m<18446744073709551616:=fun m hm=>by
 obtain⟨k,-,rfl⟩:=List.mem_map.1 hm;exact Mj h _
end
def Ud:Type:=(List Xk×List Int×List (Int×List Int)) ⊕ ((List Int×List Int×List (Int×List Int)) ⊕ (Int×List Int×List (Int×List Int)))
abbrev Ud.go (st:List Xk)(sc:List Int)(tr:List (Int×List Int)):Ud:=.inl (st,sc,tr)
abbrev Ud.done (l:List Int)(sc:List Int)(tr:List (Int×List Int)):Ud:=.inr (.inl (l,sc,tr))
abbrev Ud.trap (c:Int)(sc:List Int)(tr:List (Int×List Int)):Ud:=.inr (.inr (c,sc,tr))
theorem Ud.el {motive:Ud→Prop}(r:Ud)(go:∀ st sc tr,motive (.go st sc tr))(done:∀ l sc tr,motive (.done l sc tr))(trap:∀ c sc tr,motive (.trap c sc tr)):motive r :=
 match r with
 | .inl (st,sc,tr)=>go st sc tr
 | .inr (.inl (l,sc,tr))=>done l sc tr
 | .inr (.inr (c,sc,tr))=>trap c sc tr
theorem Ud.go_inj {a a':List Xk}{b b':List Int}{c c':List (Int×List Int)}(h:Ud.go a b c=Ud.go a' b' c'):a=a'∧b=b'∧c=c':=by
 injection h with h;injection h with h1 h;injection h with h2 h3;exact⟨h1,h2,h3⟩
def Ot (P:Zl)(x:Xk)(R:List Xk)(sc:List Int)(tr:List (Int×List Int)):Ud :=
 if (Zo x).op=12 then .go (Ma P (Zp x) (Zo x) (Zo x).outs :: Zp x :: R) sc tr
 else if (Zo x).op=13 then .go ({ Zp x with v:=Xp x.v (Zo x).outs (Yt sc (Zo x).outs.length) } :: R) (sc.drop (Zo x).outs.length) (tr++[((Zo x).f,Zv x (Zo x).args)])
 else if (Zo x).op=16 then
  match R with
  | []=>.done (Xf x.v (Zo x).outs) sc tr
  | c :: R'=>.go ({ c with v:=Xp c.v x.o (Xf x.v (Zo x).outs) } :: R') sc tr
 else if (Zo x).op=17 then .go (Ma P (Zp x) (Zo x) x.o :: R) sc tr
 else if (Zo x).op=18 then .trap (Zo x).n sc tr
 else .go (Ld (Zp x) (Zo x) :: R) sc tr
def Ud.run (P:Zl)(n:Nat):Ud→Zy
 | .inl (st,sc,tr)=>ev P n st sc tr
 | .inr (.inl (l,sc,tr))=>.done l n sc tr
 | .inr (.inr (c,sc,tr))=>.trap c n sc tr
theorem Ou (P:Zl)(n:Nat)(x:Xk)(R:List Xk)(sc:List Int)(tr:List (Int×List Int)):ev P (n+1) (x :: R) sc tr=(Ot P x R sc tr).run P n:=by
 conv=>lhs; unfold ev
 unfold Ot;by_cases h12:(Zo x).op=12
 ·
  rw [if_pos h12,if_pos h12]; rfl
 rw [if_neg h12,if_neg h12];by_cases h13:(Zo x).op=13
 ·
  rw [if_pos h13,if_pos h13]; rfl
 rw [if_neg h13,if_neg h13];by_cases h16:(Zo x).op=16
 ·
  rw [if_pos h16,if_pos h16];cases R <;> rfl
 rw [if_neg h16,if_neg h16];by_cases h17:(Zo x).op=17
 ·
  rw [if_pos h17,if_pos h17]; rfl
 rw [if_neg h17,if_neg h17];by_cases h18:(Zo x).op=18
 ·
  rw [if_pos h18,if_pos h18]; rfl
 rw [if_neg h18,if_neg h18];rfl
def WfS (P:Zl):List Xk→Prop
 | []=>False
 | [x]=>Lp P x∧x.o=[]
 | x :: c :: R=>Lp P x∧(x.o.length:Int)=x.fn.results∧(∀ k,k<x.o.length→0≤x.o.getD k 0∧x.o.getD k 0<c.v.length)∧WfS P (c :: R)
section
variable {P:Zl} {x y:Xk} {R:List Xk}
theorem WfS.top (h:WfS P (x :: R)):Lp P x:=by
 cases R with
 | nil=>exact h.1
 | cons c R=>exact h.1
theorem WfS.swap (h:WfS P (x :: R))(hy:Lp P y)(ho:y.o=x.o)(hr:y.fn.results=x.fn.results):WfS P (y :: R):=by
 cases R with
 | nil=>exact⟨hy,ho.trans h.2⟩
 | cons c R=>exact⟨hy,by rw [ho,hr]; exact h.2.1,by rw [ho]; exact h.2.2.1,h.2.2.2⟩
theorem Zfn (y:Xk)(i:Zw):(Ld y i).fn=y.fn:=by
 unfold Ld;repeat' split
 all_goals rfl
theorem Zbe (hG:Yp P)(h:Lp P x)(h12:(Zo x).op=12):FnG P (P.funcs.getD (Zo x).f.toNat Ze)∧((Zo x).outs.length:Int)=(P.funcs.getD (Zo x).f.toNat Ze).results∧(∀ k,k<(Zo x).outs.length→0≤(Zo x).outs.getD k 0∧(Zo x).outs.getD k 0<x.v.length)∧(Zo x).args.map (·.1)=(P.funcs.getD (Zo x).f.toNat Ze).params.map (·.1)∧(Zo x).args.length≤8∧(∀ k,k<(Zo x).args.length→Rh x ((Zo x).args.getD k (0,0)))∧0≤(Zo x).f∧(Zo x).f<P.funcs.length:=by
 obtain⟨h0,h1,h2⟩:=Zja (h.insG hG).fld h12;have hf:FnG P (P.funcs.getD (Zo x).f.toNat Ze):=⟨_,by omega,rfl⟩;unfold Jh at h2;simp only [Bool.and_eq_true,decide_eq_true_eq] at h2;obtain⟨ha,ho,hl,-⟩:=h2;obtain⟨hs1,hs2⟩:=Zbc (hG.fnH hf);have hk:=Zbb h ha hs1 hs2;exact⟨hf,ho,by rw [h.v]; exact Ds hl,(Cb ha).1,hk.1,hk.2,h0,h1⟩
theorem Zea (hG:Yp P)(h:Lp P x)(h13:(Zo x).op=13):(∀ k,k<(Zo x).outs.length→0≤(Zo x).outs.getD k 0∧(Zo x).outs.getD k 0<x.v.length)∧(Zo x).outs.length≤4∧(Zo x).args.length≤8∧(∀ k,k<(Zo x).args.length→Rh x ((Zo x).args.getD k (0,0))):=by
 obtain⟨h0,h1,h2⟩:=Zlk (h.insG hG).fld h13;unfold Jh at h2;simp only [Bool.and_eq_true,decide_eq_true_eq] at h2;obtain⟨ha,ho,hl,-⟩:=h2;have hc:=hG.cnt;unfold Yw at hc;simp only [Bool.and_eq_true] at hc;have hs:=Xt hc.2.2 (k:=(Zo x).f.toNat) (by omega);unfold Je at hs;simp only [Bool.and_eq_true,decide_eq_true_eq] at hs;have hr:=Mw hs.2.1;have hk:=Zbb h ha (fun k hk=>Mw (Xt hs.2.2 hk)) hs.1;exact⟨by rw [h.v]; exact Ds hl,by omega,hk.1,hk.2⟩
theorem Zbf (hG:Yp P)(h:Lp P x)(h16:(Zo x).op=16):((Zo x).outs.length:Int)=x.fn.results∧(Zo x).outs.length≤4∧∀ k,k<(Zo x).outs.length→0≤(Zo x).outs.getD k 0∧(Zo x).outs.getD k 0<x.v.length:=by
 obtain⟨h1,h2⟩:=Zfl (h.insG hG).fld h16;have:=(hG.fnH h.fn).r1;exact⟨h1,by omega,by rw [h.v]; exact Ds h2⟩
theorem Zbg (hG:Yp P)(h:Lp P x)(h17:(Zo x).op=17):FnG P (P.funcs.getD (Zo x).f.toNat Ze)∧(P.funcs.getD (Zo x).f.toNat Ze).results=x.fn.results∧(Zo x).args.map (·.1)=(P.funcs.getD (Zo x).f.toNat Ze).params.map (·.1)∧(Zo x).args.length≤8∧(∀ k,k<(Zo x).args.length→Rh x ((Zo x).args.getD k (0,0)))∧0≤(Zo x).f∧(Zo x).f<P.funcs.length:=by
 obtain⟨h0,h1,h2⟩:=Zjb (h.insG hG).fld h17;have hf:FnG P (P.funcs.getD (Zo x).f.toNat Ze):=⟨_,by omega,rfl⟩;unfold Mp at h2;simp only [Bool.and_eq_true,decide_eq_true_eq] at h2;obtain⟨ha,ho⟩:=h2;obtain⟨hs1,hs2⟩:=Zbc (hG.fnH hf);have hk:=Zbb h ha hs1 hs2;exact⟨hf,ho,(Cb ha).1,hk.1,hk.2,h0,h1⟩
theorem Zjg (hG:Yp P)(h:WfS P (x :: R)){sc:List Int}(hsc:∀ n ∈ sc,0≤n∧n<18446744073709551616)(tr:List (Int×List Int)):∀{st sc' tr'},Ot P x R sc tr=.go st sc' tr'→WfS P st∧∀ n ∈ sc',0≤n∧n<18446744073709551616:=by
 intro st sc' tr' he;have hx:=h.top;unfold Ot at he;by_cases h12:(Zo x).op=12
 ·
  rw [if_pos h12] at he;obtain⟨e1,e2,e3⟩:=Ud.go_inj he;subst e1 e2;obtain⟨hf,ho,hl,-⟩:=Zbe hG hx h12;refine⟨⟨Cd hG hf (Og ⟨hx.ok.v,hx.ok.s⟩ _) _,ho,hl,h.swap (hx.next hG (by omega)) rfl rfl⟩,hsc⟩
 rw [if_neg h12] at he;by_cases h13:(Zo x).op=13
 ·
  rw [if_pos h13] at he;obtain⟨e1,e2,e3⟩:=Ud.go_inj he;subst e1 e2;exact⟨h.swap ((hx.next hG (by omega)).setVs _ (Zcv hsc _)) rfl rfl,fun n hn=>hsc n (List.mem_of_mem_drop hn)⟩
 rw [if_neg h13] at he;by_cases h16:(Zo x).op=16
 ·
  rw [if_pos h16] at he;cases R with
  | nil=>cases he
  | cons c R' =>
   obtain⟨e1,e2,e3⟩:=Ud.go_inj he;subst e1 e2;exact⟨h.2.2.2.swap (h.2.2.2.top.setVs _ (Zcu hx.ok _)) rfl rfl,hsc⟩
 rw [if_neg h16] at he;by_cases h17:(Zo x).op=17
 ·
  rw [if_pos h17] at he;obtain⟨e1,e2,e3⟩:=Ud.go_inj he;subst e1 e2;obtain⟨hf,hr,-⟩:=Zbg hG hx h17;exact⟨h.swap (Cd hG hf (Og ⟨hx.ok.v,hx.ok.s⟩ _) _) rfl hr,hsc⟩
 rw [if_neg h17] at he;by_cases h18:(Zo x).op=18
 ·
  rw [if_pos h18] at he;cases he
 rw [if_neg h18] at he;obtain⟨e1,e2,e3⟩:=Ud.go_inj he;subst e1 e2;have:=(hx.insG hG).op1;exact⟨h.swap (hx.loc hG (by omega)) (Zdz _ _) (by rw [Zfn]; rfl),hsc⟩
end
theorem Dr (w:World):∀ n,(w.drewN n).heap.size=w.heap.size
 | 0=>rfl
 | n+1=>Dr w.drew n
def So (V:World)(b:Nat)(fv ev:Value)(fuel steps:Int)(sv:Value)(kind code:Int)(tv:Value)(fn:Int):Prop:=V.heap[b]?=some (.cells #[fv,ev,.int .i64 fuel,.int .i64 steps,sv,.int .i64 kind,.int .u64 code,tv,.int .i64 fn] 78 (0,0))
theorem Zba {g j:Nat}{w U:World}{v:Value}(h:Below w.heap.size w U)(hz:U.heap.size=w.heap.size):Ok g w (U.setCell ⟨g,j,none⟩ v):=⟨h.os,h.tape,h.output,by simpa using hz,fun q hq=>(heap_setCell_other _ _ _ _ hq).trans (by
 by_cases hl:q<w.heap.size
 ·
  exact h.block q hl
 ·
  rw [Array.getElem?_eq_none (by omega),Array.getElem?_eq_none (by omega)])⟩
set_option maxHeartbeats 2000000 in
theorem Zlj (b:Nat)(fv ev sv tv:Value)(fuel steps kind code fn:Int)(w:World)(h:So w b fv ev fuel steps sv kind code tv fn)(he:steps=fuel) :
 Calls Tryz.prog 54 #[.pointer (some ⟨b,0,none⟩)] w fun e w'=>e=.returned (.bool false)∧Ok b w w'∧So w' b fv ev fuel steps sv 3 code tv fn:=by
 have HR:=J h;have c2:=cR h 2;have c3:=cR h 3;clear h;have z:(steps==fuel)=true:=by simp [he]
 clear he;go_enter Tryz.func54,Tryz.ntmps54
 go_upto_region 1 with fail
 go_quiet (fail)
 generalize hX:World.drewN w _=U;have hB:Below w.heap.size w U:=by rw [← hX]; exact Zk (Below.refl _ _) _
 have hZ:U.heap.size=w.heap.size:=by rw [← hX]; exact Dr _ _
 have hR:So U b fv ev fuel steps sv kind code tv fn:=(hB.block b (Zd (G HR))).trans (G HR);have c5:=cR hR 5;have z5:=frozen_of_row _ _ 5 _ _ hR;have HX:=J (show So (U.setCell ⟨b,5,none⟩ (.int .i64 3)) b fv ev fuel steps sv 3 code tv fn from heap_setCell_same _ _ 5 _ _ _ hR);have HO:=J (Zba (g:=b) (j:=5) (v:=.int .i64 3) hB hZ);clear hX hB hZ hR c2 c3;go_wp2;go_ret;exact⟨rfl,G HO,G HX⟩
set_option maxHeartbeats 2000000 in
theorem Ziy (b:Nat)(fv ev sv tv:Value)(fuel steps kind code fn:Int)(w:World)(h:So w b fv ev fuel steps sv kind code tv fn)(he:¬ steps=fuel)(h0:0≤steps)(h1:steps≤1000000) :
 Calls Tryz.prog 54 #[.pointer (some ⟨b,0,none⟩)] w fun e w'=>e=.returned (.bool true)∧Ok b w w'∧So w' b fv ev fuel (steps+1) sv kind code tv fn:=by
 have HR:=J h;have c2:=cR h 2;have c3:=cR h 3;clear h;have z:(steps==fuel)=false:=by simp [he]
 clear he;go_enter Tryz.func54,Tryz.ntmps54
 go_upto_region 1 with fail
 go_quiet (fail)
 generalize hX:World.drewN w _=U;have hB:Below w.heap.size w U:=by rw [← hX]; exact Zk (Below.refl _ _) _
 have hZ:U.heap.size=w.heap.size:=by rw [← hX]; exact Dr _ _
 have hR:So U b fv ev fuel steps sv kind code tv fn:=(hB.block b (Zd (G HR))).trans (G HR);have c3':U.cell? ⟨b,3,none⟩=some (.int .i64 steps):=(cR hR 3);have z3:=frozen_of_row _ _ 3 _ _ hR;have HX:=J (show So (U.setCell ⟨b,3,none⟩ (.int .i64 (steps+1))) b fv ev fuel (steps+1) sv kind code tv fn from heap_setCell_same _ _ 3 _ _ _ hR);have HO:=J (Zba (g:=b) (j:=3) (v:=.int .i64 (steps+1)) hB hZ);clear hX hB hZ hR c2 c3;go_wp2;go_ret;exact⟨rfl,G HO,G HX⟩
set_option maxHeartbeats 2000000 in
theorem Zct (b:Nat)(fv ev tv:Value)(p:Option Addr)(c:Nat)(fuel steps kind code fn:Int)(w:World)(h:So w b fv ev fuel steps (.slice p 0 c) kind code tv fn) :
 Calls Tryz.prog 57 #[.pointer (some ⟨b,0,none⟩)] w fun e w'=>e=.returned (.int .u64 0)∧w'=w:=by
 have c4:=cR h 4;clear h;go_enter Tryz.func57,Tryz.ntmps57
 go_wp2;go_ret;exact⟨rfl,rfl⟩
theorem Gy {w:World}{B B' e size n:Nat}{v:Value}{xs:List Value}(h:w.ownsRow B e size v n xs)(hB:B'≤B):w.ownsRow B' e size v n xs:=by
 refine⟨h.1,?_⟩;rcases h.2 with hn | ⟨g,cap,cur,hv,hb,rest⟩
 ·
  exact .inl hn
 ·
  exact .inr ⟨g,cap,cur,hv,Nat.le_trans hB hb,rest⟩
theorem Zeb {P:Program}(w:World)(base:Nat)(t ty e:TypeId)(i:TypeInfo)(z:Value)(size bytes:Nat)(ht:P.underlying t=some (.slice e))(hi:P.info? e=some i)(hz:i.zero=some z)
 (hsize:i.size=size) (hby:i.bytes=bytes) (hzs:z.cells.size=size) (hsz:0<size)
 (v:Value) (n:Nat) (xs:List Value) (hown:w.ownsRow base e size v n xs)
 (a:Addr) (m c:Nat) (news:List Value) (hl:news.length=m*size) (hnews:∀ j u,news[j]?=some u→w.cell? (a.add j)=some u) (h1:∀ u ∈ news,u.oneCell'=true)
 (h63:n+m≤maxLen) (hbytes:(n+m)*bytes≤140737488355328) (hbase:base≤w.heap.size) :
 ∃ v' w',(Builtin.append_ #[t,t] ty #[v,.slice (some a) m c]).run P w=.ok v' w'∧w'.ownsRow base e size v' (n+m) (xs++news)∧w.grownBy w' v.ownBlock∧∀ g,v'.ownBlock=some g→v.ownBlock=some g∨w.heap.size≤g:=by
 obtain⟨v',w',hr,h2,h3,-⟩:=run_append_own (P:=P) w base t ty e i z size bytes ht hi hz hsize hby hzs hsz v n xs hown a m c news hl hnews h1 h63 hbytes hbase;refine⟨v',w',hr,h2,h3,fun g hg=>?_⟩;rcases hown.2 with⟨rfl,rfl⟩ | ⟨g0,cap,cur,rfl,hbg,hg0,hnc,hcm,hcs,htake⟩
 ·
  have hx:xs=[]:=List.eq_nil_of_length_eq_zero (by simpa using hown.1);subst hx;obtain⟨v2,w2,hr2,o2,-,-⟩:=run_append_own (P:=P) w w.heap.size t ty e i z size bytes ht hi hz hsize hby hzs hsz _ 0 [] (World.ownsRow_nil _ _ _ _) a m c news hl hnews h1 h63 hbytes (Nat.le_refl _);rw [hr] at hr2;injection hr2 with e1 e2;subst e1 e2;exact Or.inr (o2.lt g hg).1
 ·
  subst hsize;subst hby;by_cases hroom:n+m≤cap
  ·
   have hfit:n*i.size+news.length≤cur.size:=by rw [hl,hcs,← Nat.add_mul]; exact Nat.mul_le_mul_right _ hroom
   have hr2:=run_append_room (P:=P) w t ty e i ht hi g0 n cap cur hg0 a m c news hl hnews h1 hroom hfit;rw [hr] at hr2;injection hr2 with e1 e2;subst e1;exact Or.inl hg
  ·
   have holds:∀ j u,xs[j]?=some u→w.cell? ((⟨g0,0,none⟩:Addr).add j)=some u:=hown.cells (g:=g0) rfl;have hr2:=run_append_grow (P:=P) w t ty e i z ht hi hz ⟨g0,0,none⟩ n cap xs hown.1 holds a m c news hl hnews (by omega) (by simp only [maxLen] at h63; omega) (growslice_fits (by omega) hbytes);rw [hr] at hr2;injection hr2 with e1 e2;subst e1;injection hg with hg;exact Or.inr (Nat.le_of_eq hg)
theorem Rl {P:Program}{ops:Array Oper}{o:Oper}{a:Act}{w:World}{K:Act→World→Prop}{Q:Exit→Act→World→Prop}{E:Prop}
 (hg:o.guard=none) (s x:Operand) (t:TypeId) (ho:o.op=.call { callee:=.builtin .append,args:=#[s,x],argTypes:=#[t,t] })
 (base:Nat) (e:TypeId) (i:TypeInfo) (z:Value) (size bytes:Nat) (ht:P.underlying t=some (.slice e)) (hi:P.info? e=some i) (hz:i.zero=some z)
 (hsize:i.size=size) (hby:i.bytes=bytes) (hzs:z.cells.size=size) (hsz:0<size)
 (v:Value) (n:Nat) (xs:List Value) (hs:a.eval s=v) (hown:w.ownsRow base e size v n xs)
 (ad:Addr) (m c:Nat) (news:List Value) (hx:a.eval x=.slice (some ad) m c) (hl:news.length=m*size) (hnews:∀ j u,news[j]?=some u→w.cell? (ad.add j)=some u) (h1:∀ u ∈ news,u.oneCell'=true)
 (h63:n+m≤maxLen) (hbytes:(n+m)*bytes≤140737488355328) (hbase:base≤w.heap.size)
 (h:∀ v' w',w'.ownsRow base e size v' (n+m) (xs++news)→w.grownBy w' v.ownBlock→(∀ g,v'.ownBlock=some g→v.ownBlock=some g∨w.heap.size≤g)→K (a.put o.dst v') w') :
 if Region.wanted o (yielded ops a.tmps)=true then Oper.wp P o a w K Q else E:=by
 have hw:Region.wanted o (yielded ops a.tmps)=true:=by simp [Region.wanted,hg]
 rw [if_pos hw];obtain⟨v',w',hr,h2,h3,h4⟩:=Zeb (P:=P) w base t o.type e i z size bytes ht hi hz hsize hby hzs hsz v n xs hown ad m c news hl hnews h1 h63 hbytes hbase;unfold Oper.wp execOp;simp only [ho,resolve,invoke,builtin,Sem.run_bind,Sem.run_pure,Result.andThen_ok,List.map_toArray,List.map_cons,List.map_nil,hs,hx,hr];exact h v' w' h2 h3 h4
theorem Zln {P:Program}{ops:Array Oper}{Q:Exit→Act→World→Prop}{md:Region.Mode}{C:World→Prop}{d:Nat}{i:Nat}{oi od:Oper}{v:Value}{n:Nat}{L:Array Bool}{a:Act}{w:World}(hi:ops[i]?=some oi)(hd:ops[d]?=some od)
 (hk:((od.after.any fun e=>Region.binds md e&&e.on==i)&&(Region.noSelect ops&&(Region.free md ops L i&&((Region.ready md ops L).contains i&&!(L.getD d true)))))=true)
 (hQ:∀ c a w,Q (.panic c) (a.put oi.dst v) w→Q (.panic c) a w) (hy:YieldsIf P ops C oi v a) (hC:C w)
 (h:Db P md ops Q C d n (L.setIfInBounds i true) (a.put oi.dst v) w):Db P md ops Q C d (n+1) L a w:=by
 simp only [Bool.and_eq_true,Bool.not_eq_true'] at hk;exact Xm hi hd hk.1 hk.2.1 hk.2.2.1 hk.2.2.2.1 hk.2.2.2.2 hQ hy hC h
structure Mh where
 x:Xk
 q:Nat
 lo:Nat
 hi:Nat
 lg:Nat
 bp:Option Addr
 sp:Option Addr
 op:Option Addr
 bc:Nat
 sc:Nat
 oc:Nat
 gs:List Nat
 B:Nat→Value
def Mh.At (w0 V:World)(f:Mh):Prop:=Gn w0 V f.x f.q f.lo f.hi f.lg f.bp f.sp f.op f.bc f.sc f.oc f.gs f.B
def Zcw (st:List Mh)(g:Nat):Prop:=∀ f ∈ st,g<f.lo∨f.hi≤g
def Nd (st:List Mh):List Value:=st.reverse.map fun f=>.pointer (some ⟨f.q,0,none⟩)
def evC (fs:List Int)(es:List Value):List Value:=(fs.zip es).flatMap fun e=>[.int .i64 e.1,e.2]
structure TrI (V:World)(b:Nat)(N:Nat→Prop)(tv:Value)(tr:List (Int×List Int))(es:List Value):Prop where
 len:es.length=tr.length
 row:V.ownsRow b 82 2 tv tr.length (evC (tr.map (·.1)) es)
 out:∀ g,tv.ownBlock=some g→N g
 each:∀ k,k<tr.length→V.ownsRow b 62 1 (es.getD k .nilIface) (tr.getD k (0,[])).2.length (uC (tr.getD k (0,[])).2)∧∀ g,(es.getD k .nilIface).ownBlock=some g→N g
theorem own_row {w:World}{B e size n g:Nat}{v:Value}{xs:List Value}(h:w.ownsRow B e size v n xs)(hg:v.ownBlock=some g):∃ cs,w.heap[g]?=some (.cells cs e (0,0)):=by
 rcases h.2 with⟨rfl,-⟩ | ⟨g',cap,cur,rfl,-,hr,-⟩
 ·
  cases hg
 ·
  injection hg with hg;subst hg;exact⟨cur,hr⟩
theorem TrI.keep {V V':World}{b:Nat}{N N':Nat→Prop}{tv:Value}{tr:List (Int×List Int)}{es:List Value}(h:TrI V b N tv tr es)(hk:∀ g cs t,V.heap[g]?=some (.cells cs t (0,0))→t=82∨t=62→b≤g→N g→V'.heap[g]?=V.heap[g]?)(hN:∀ g,b≤g→g<V.heap.size→N g→N' g):TrI V' b N' tv tr es:=by
 refine⟨h.len,Yq h.row fun g hg=>?_,fun g hg=>hN g (h.row.lt g hg).1 (h.row.lt g hg).2 (h.out g hg),fun k hkk=>⟨Yq (h.each k hkk).1 fun g hg=>?_,fun g hg=>hN g ((h.each k hkk).1.lt g hg).1 ((h.each k hkk).1.lt g hg).2 ((h.each k hkk).2 g hg)⟩⟩
 ·
  obtain⟨cs,hr⟩:=own_row h.row hg;exact hk g cs _ hr (Or.inl rfl) (h.row.lt g hg).1 (h.out g hg)
 ·
  obtain⟨cs,hr⟩:=own_row (h.each k hkk).1 hg;exact hk g cs _ hr (Or.inr rfl) ((h.each k hkk).1.lt g hg).1 ((h.each k hkk).2 g hg)
def Zmv (rb:Nat)(t0:TypeId)(w w':World):Prop:=∀ g cs t,w.heap[g]?=some (.cells cs t (0,0))→t≠t0→g≠rb→w'.heap[g]?=w.heap[g]?
def Gv (V:World)(rb:Nat)(fv scv frv:Value)(kind:Int)(vv tv:Value)(steps:Int):Prop:=V.heap[rb]?=some (.cells #[fv,scv,frv,.int .i64 kind,vv,.int .i64 0,tv,.int .i64 steps,.int .i64 0] 110 (0,0))
structure Xc (w0 V:World)(rb b:Nat)(st:List Mh)(frv tv:Value)(tr:List (Int×List Int))(es:List Value):Prop where
 low:Below w0.heap.size w0 V
 w0b:w0.heap.size≤b
 rbb:b≤rb
 stk:∀ f ∈ st,f.At w0 V∧rb<f.lo
 ord:st.Pairwise fun u l=>l.hi≤u.lo
 fr:V.ownsRow b 149 1 frv st.length (Nd st)
 fro:∀ g,frv.ownBlock=some g→Zcw st g
 tr:TrI V b (fun g=>Zcw st g∧g≠rb) tv tr es
section
variable {w0 V V':World} {rb b:Nat} {st R:List Mh} {f:Mh} {frv tv:Value} {tr:List (Int×List Int)} {es:List Value}
theorem Xc.grow (h:Xc w0 V rb b st frv tv tr es)(hb:Below V.heap.size V V'):Xc w0 V' rb b st frv tv tr es :=
 ⟨Za h.low hb h.low.size,h.w0b,h.rbb,fun f hf=>⟨Yk (h.stk f hf).1 hb,(h.stk f hf).2⟩,h.ord,Yq h.fr fun g hg=>hb.block g (h.fr.lt g hg).2,h.fro,h.tr.keep (fun g _ _ hr _ _ _=>hb.block g (Zd hr)) (fun _ _ _ h=>h)⟩
theorem Xc.pair (h:Xc w0 V rb b (f :: R) frv tv tr es):∀ u ∈ R,u.hi≤f.lo:=(List.pairwise_cons.1 h.ord).1
theorem Xc.top (h:Xc w0 V rb b (f :: R) frv tv tr es){x:Xk}(hF:Gn w0 V' x f.q f.lo f.hi f.lg f.bp f.sp f.op f.bc f.sc f.oc f.gs f.B)(hO:Sx f.lo f.hi V V'):Xc w0 V' rb b ({ f with x:=x } :: R) frv tv tr es:=by
 have hz:=h.low.size;have hw:=h.w0b;have hr:=h.rbb;have hrl:=(h.stk f List.mem_cons_self).2;have hout:∀ g,Zcw (f :: R) g↔Zcw ({ f with x:=x } :: R) g:=fun g=>by
  unfold Zcw;simp only [List.forall_mem_cons]
 refine⟨⟨hO.os.trans h.low.os,hO.tape.trans h.low.tape,hO.output.trans h.low.output,Nat.le_trans hz hO.size,fun k hk=>(hO.oth k (by omega) (Or.inl (by omega))).trans (h.low.block k hk)⟩,hw,hr,fun u hu=>?_,List.pairwise_cons.2 ⟨h.pair,(List.pairwise_cons.1 h.ord).2⟩,Yq (by simpa [Nd] using h.fr) fun g hg=>hO.oth g (h.fr.lt g hg).2 (h.fro g hg f List.mem_cons_self),fun g hg=>(hout g).1 (h.fro g hg),h.tr.keep (fun g _ _ hr _ _ hN=>hO.oth g (Zd hr) (hN.1 f List.mem_cons_self)) (fun g _ _ hN=>⟨(hout g).1 hN.1,hN.2⟩)⟩;rcases List.mem_cons.1 hu with rfl | hu
 ·
  exact⟨hF,hrl⟩
 ·
  have h1:=h.stk u (List.mem_cons_of_mem _ hu);have h2:=h.pair u hu;exact⟨Mu h1.1 (fun g g1 g2=>hO.oth g (Nat.lt_of_lt_of_le g2 h1.1.hs) (Or.inl (by omega))) hO.size,h1.2⟩
theorem Xc.own (h:Xc w0 V rb b st frv tv tr es)(hrow:∃ cs,V.heap[rb]?=some (.cells cs 110 (0,0)))(hO:Ok rb V V'):Xc w0 V' rb b st frv tv tr es:=by
 have hw:=h.w0b;have hr:=h.rbb;obtain⟨cs,hrow⟩:=hrow;have hne:∀ g,frv.ownBlock=some g→g≠rb:=fun g hg e=>Xu h.fr hrow (by decide) (by rw [hg,e]);refine⟨⟨hO.os.trans h.low.os,hO.tape.trans h.low.tape,hO.output.trans h.low.output,by rw [hO.size]; exact h.low.size,fun k hk=>(hO.oth k (by omega)).trans (h.low.block k hk)⟩,hw,hr,fun u hu=>⟨Mu (h.stk u hu).1 (fun g g1 _=>hO.oth g (by have:=(h.stk u hu).2; omega)) (Nat.le_of_eq hO.size.symm),(h.stk u hu).2⟩,h.ord,Yq h.fr fun g hg=>hO.oth g (hne g hg),h.fro,h.tr.keep (fun g _ _ _ _ _ hN=>hO.oth g hN.2) (fun _ _ _ h=>h)⟩
theorem Xc.drop (h:Xc w0 V rb b (f :: R) frv tv tr es){p:Option Addr}{c:Nat}(hv:frv=.slice p (R.length+1) c):Xc w0 V rb b R (.slice p R.length c) tv tr es:=by
 subst hv;have hsub:∀ g,Zcw (f :: R) g→Zcw R g:=fun g hg u hu=>hg u (List.mem_cons_of_mem _ hu);refine⟨h.low,h.w0b,h.rbb,fun u hu=>h.stk u (List.mem_cons_of_mem _ hu),(List.pairwise_cons.1 h.ord).2,?_,fun g hg=>hsub g (h.fro g (by cases p <;> exact hg)),h.tr.keep (fun _ _ _ _ _ _ _=>rfl) (fun g _ _ hN=>⟨hsub g hN.1,hN.2⟩)⟩;rcases h.fr.2 with⟨e,hn⟩ | ⟨g,cap,cur,e,hb,hg,hnc,hcm,hcs,ht⟩
 ·
  simp at hn
 ·
  injection e with e1 e2 e3;subst e1 e3;refine⟨by simp [Nd],.inr ⟨g,_,cur,rfl,hb,hg,by simp at hnc; omega,hcm,hcs,?_⟩⟩;have h2:Nd (f :: R)=Nd R++[.pointer (some ⟨f.q,0,none⟩)]:=by simp [Nd]
  rw [h2] at ht;have h3:=congrArg (List.take R.length) ht;rw [List.take_take] at h3;simp only [List.length_cons,Nat.mul_one] at h3 ⊢;rw [Nat.min_eq_left (by omega),List.take_left' (by simp [Nd])] at h3;exact h3
theorem Xc.push {V2 V3:World}{frv':Value}(h:Xc w0 V rb b st frv tv tr es)(hrow:∃ cs,V.heap[rb]?=some (.cells cs 110 (0,0)))(hb:Below V.heap.size V V2)(hf:f.At w0 V2)(hlo:V.heap.size≤f.lo)(hg:V2.grownBy V3 frv.ownBlock)
 (ho:V3.ownsRow b 149 1 frv' (st.length+1) (Nd st++[.pointer (some ⟨f.q,0,none⟩)])) (hblk:∀ g,frv'.ownBlock=some g→frv.ownBlock=some g∨V2.heap.size≤g) (j:Nat) (u:Value) :
 Xc w0 (V3.setCell ⟨rb,j,none⟩ u) rb b (f :: st) frv' tv tr es∧Below b V (V3.setCell ⟨rb,j,none⟩ u)∧Zmv rb 149 V (V3.setCell ⟨rb,j,none⟩ u):=by
 obtain⟨cs,hrow⟩:=hrow;have hw:=h.w0b;have hr:=h.rbb;have hrl:=Zd hrow;have hz:=hb.size;have hgz:=hg.size;have hfb:∀ g,frv.ownBlock=some g→b≤g∧g<V.heap.size:=h.fr.lt;have hne:∀ g,frv.ownBlock=some g→g≠rb:=fun g hg e=>Xu h.fr hrow (by decide) (by rw [hg,e]);have hsame:∀ g,g<V2.heap.size→frv.ownBlock≠some g→g≠rb→(V3.setCell ⟨rb,j,none⟩ u).heap[g]?=V2.heap[g]?:=fun g h1 h2 h3=>(heap_setCell_other _ _ _ _ h3).trans (hg.block g h1 (fun e=>h2 e.symm));have hsame0:∀ g,g<V.heap.size→frv.ownBlock≠some g→g≠rb→(V3.setCell ⟨rb,j,none⟩ u).heap[g]?=V.heap[g]?:=fun g h1 h2 h3=>(hsame g (by omega) h2 h3).trans (hb.block g h1);have hsz:(V3.setCell ⟨rb,j,none⟩ u).heap.size=V3.heap.size:=by simp
 have hB:Below b V (V3.setCell ⟨rb,j,none⟩ u):=⟨hg.os.trans hb.os,hg.tape.trans hb.tape,hg.output.trans hb.output,by rw [hsz]; omega,fun g hg'=>hsame0 g (by omega) (fun e=>by have:=(hfb g e).1; omega) (by omega)⟩;refine⟨⟨⟨hB.os.trans h.low.os,hB.tape.trans h.low.tape,hB.output.trans h.low.output,Nat.le_trans h.low.size hB.size,fun g hg'=>(hB.block g (by omega)).trans (h.low.block g hg')⟩,hw,hr,fun v hv=>?_,List.pairwise_cons.2 ⟨fun v hv=>Nat.le_trans (h.stk v hv).1.hs hlo,h.ord⟩,?_,fun g hg' v hv=>?_,h.tr.keep (fun g cs' t hr' ht hb' hN=>hsame0 g (Zd hr') (fun e=>?_) hN.2) (fun g _ hlt hN=>⟨fun v hv=>?_,hN.2⟩)⟩,hB,fun g cs' t hr' ht hne'=>hsame0 g (Zd hr') (fun e=>?_) hne'⟩
 ·
  rcases List.mem_cons.1 hv with rfl | hv
  ·
   exact⟨Mu hf (fun g g1 g2=>hsame g (Nat.lt_of_lt_of_le g2 hf.hs) (fun e=>by have:=(hfb g e).2; omega) (by omega)) (by rw [hsz]; omega),by omega⟩
  ·
   have k:=h.stk v hv;exact⟨Mu k.1 (fun g g1 g2=>hsame0 g (Nat.lt_of_lt_of_le g2 k.1.hs) (fun e=>by rcases h.fro g e v hv with h' | h' <;> omega) (by omega)) (by rw [hsz]; omega),k.2⟩
 ·
  have ho2:=Yq (V':=V3.setCell ⟨rb,j,none⟩ u) ho fun g hg'=>heap_setCell_other _ _ _ _ (by
   rcases hblk g hg' with e | e
   ·
    exact hne g e
   ·
    show g≠rb; omega)
  simpa [Nd] using ho2
 ·
  have:=hf.hs;rcases List.mem_cons.1 hv with rfl | hv
  ·
   rcases hblk g hg' with e | e
   ·
    have:=(hfb g e).2; omega
   ·
    omega
  ·
   rcases hblk g hg' with e | e
   ·
    exact h.fro g e v hv
   ·
    have:=(h.stk v hv).1.hs; omega
 ·
  obtain⟨cs2,hr2⟩:=own_row h.fr e;rcases ht with rfl | rfl
  ·
   exact Zs hr2 hr' (by decide) rfl
  ·
   exact Zs hr2 hr' (by decide) rfl
 ·
  rcases List.mem_cons.1 hv with rfl | hv
  ·
   omega
  ·
   exact hN.1 v hv
 ·
  obtain⟨cs2,hr2⟩:=own_row h.fr e;exact Zs hr2 hr' (fun e=>ht e.symm) rfl
end
end Go.Proofs.YteddfaconabobaaGreatDoor
