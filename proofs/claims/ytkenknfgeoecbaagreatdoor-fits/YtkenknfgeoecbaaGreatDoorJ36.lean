import Derived.Test.YtkenknfgeoecbaaGreatDoorInN
import Derived.Test.YtkenknfgeoecbaaGreatDoorJ35
namespace Go.Proofs.YtkenknfgeoecbaaGreatDoor
open Go.RowKit
set_option maxHeartbeats 8000000
set_option maxRecDepth 100000
theorem Zmi (w0 w:World)(fn:Zj)(ws outs:List Int)(pp qh qs qb wp op:Option Addr)(pc ch cs cb wc oc:Nat)(B:Nat->Value)(hD:Id w0 fn (.slice pp fn.params.length pc) (.slice qh fn.homes.length ch) (.slice qs fn.slots.length cs) (.slice qb fn.blocks.length cb) B)(hbw0:Below w0.heap.size w0 w)(hW:LiU w (.slice wp ws.length wc) ws)(hOu:Li w0 (.slice op outs.length oc) outs)
 (hP:∀ k,k<fn.params.length->Zvi (List.replicate fn.homes.length 0) (fn.slots.map fun n=>List.replicate (8*n).toNat 0) (fn.params.getD k (0,0))) (hns:∀ k,k<fn.slots.length->0<=fn.slots.getD k 0∧fn.slots.getD k 0<=8) (hnl:fn.slots.length<=6) (hn0:fn.slots.length=0) (hpw:∀ k,k<fn.params.length->(fn.params.getD k (0,0)).1=0) (hpl:fn.params.length<=8) (hhl:fn.homes.length<=12) (hwl:ws.length=Sx fn.params) (hws:∀ n ∈ ws,0<=n∧n<18446744073709551616) :
 Calls Tryz.prog 126 #[.agg #[.slice pp fn.params.length pc,.int .i64 fn.results,.slice qh fn.homes.length ch,.slice qs fn.slots.length cs,.slice qb fn.blocks.length cb],.slice wp ws.length wc,.slice op outs.length oc] w fun e w'=>∃ q lo hi lg sp sc gs,e=.returned (.pointer (some ⟨q,0,none⟩))∧w.heap.size<=lo∧Ia w0 w' (Im fn ws outs) q lo hi lg qb sp op cb sc oc gs B∧Below w.heap.size w w'∧IOk (Im fn ws outs):=by
 obtain⟨r0,hb0,hz0⟩:=al0 w (.cells #[.slice pp fn.params.length pc,.int .i64 fn.results,.slice qh fn.homes.length ch,.slice qs fn.slots.length cs,.slice qb fn.blocks.length cb] 71 (0,0));have HD:=O hD;have HOU:=O hOu;have HP:=O hP;have HNS:=O hns;have HN0:=O hn0;have HPW:=O hpw;clear hn0 hpw;have HWL:=O hwl;have HWS:=O hws;have HLW:=O (Mg hW hb0);have HMK:=fun V=>mkU fn.homes.length (by omega) V;have HB0:=O hbw0;have HBW:=O hb0;have HZ0:=O hz0;have HS0:=O r0;clear hD hOu hP hns hwl hws hW r0 hb0 hz0 hbw0;go_enter Tryz.func126,Tryz.ntmps126
 go_upto_region 1 with fail
 generalize World.alloc w _=W at HLW HBW HZ0 HS0 ⊢;have HS:=O (show(fun V=>V.heap[w.heap.size]?=some (.cells #[.slice pp fn.params.length pc,.int .i64 fn.results,.slice qh fn.homes.length ch,.slice qs fn.slots.length cs,.slice qb fn.blocks.length cb] 71 (0,0))) W.drew from J HS0);refine wp_region_held_drew (S:=fun V=>V.heap[w.heap.size]?=some (.cells #[.slice pp fn.params.length pc,.int .i64 fn.results,.slice qh fn.homes.length ch,.slice qs fn.slots.length cs,.slice qb fn.blocks.length cb] 71 (0,0))) (by kernel_rfl) (J HS) (fun hHeld=>?_);refine tV 0 ?v0 ?hy0 ?_;case hy0 =>
  intro V hV;try dsimp only at hV
  clear hV;go_simp;all_goals (with_reducible rfl)
 simp only [Act.put,zA,zB,zC,zD,zE];refine tV 1 ?v1 ?hy1 ?_;case hy1 =>
  intro V hV;try dsimp only at hV
  have c:=cR hV 4;clear hV;go_simp;all_goals (with_reducible rfl)
 simp only [Act.put,zA,zB,zC,zD,zE,zF];refine tV 2 ?v2 ?hy2 ?_;case hy2 =>
  intro V hV;try dsimp only at hV
  clear hV;go_simp;all_goals (with_reducible rfl)
 simp only [Act.put,zA,zB,zC,zD,zE,zF];refine tV 3 ?v3 ?hy3 ?_;case hy3 =>
  intro V hV;try dsimp only at hV
  have c:=cR hV 2;clear hV;go_simp;all_goals (with_reducible rfl)
 simp only [Act.put,zA,zB,zC,zD,zE,zF];refine tV 4 ?v4 ?hy4 ?_;case hy4 =>
  intro V hV;try dsimp only at hV
  clear hV;go_simp;all_goals (with_reducible rfl)
 simp only [Act.put,zA,zB,zC,zD,zE,zF];refine tV 6 ?v6 ?hy6 ?_;case hy6 =>
  intro V hV;try dsimp only at hV
  clear hV;go_simp;all_goals (with_reducible rfl)
 simp only [Act.put,zA,zB,zC,zD,zE,zF];refine tO 5 fun K hK=>?_;go_simp;obtain⟨r1,b1,z1⟩:=al0 W (.cells (uC (List.replicate fn.homes.length 0)).toArray 90 (0,0));have hS1:(fun V=>V.heap[w.heap.size]?=some (.cells #[.slice pp fn.params.length pc,.int .i64 fn.results,.slice qh fn.homes.length ch,.slice qs fn.slots.length cs,.slice qb fn.blocks.length cb] 71 (0,0))) (W.alloc (.cells (uC (List.replicate fn.homes.length 0)).toArray 90 (0,0))).drew:=(b1.block _ (Zi (J HS))).trans (J HS);refine kO hK hS1 (fun hHeld2=>?_);clear hK K;refine tV 7 ?v7 ?hy7 ?_;case hy7 =>
  intro V hV;try dsimp only at hV
  clear hV;go_simp;all_goals (with_reducible rfl)
 simp only [Act.put,zA,zB,zC,zD,zE,zF];refine tO 8 fun K hK=>?_;go_simp;obtain⟨r2,b2,z2⟩:=al0 (W.alloc (.cells (uC (List.replicate fn.homes.length 0)).toArray 90 (0,0))) (.cells #[.slice qb fn.blocks.length cb,.int .i64 0,.int .i64 0,.slice (some ⟨W.heap.size,0,none⟩) fn.homes.length fn.homes.length,.slice none 0 0,.slice op outs.length oc] 328 (0,0));have hS2:(fun V=>V.heap[w.heap.size]?=some (.cells #[.slice pp fn.params.length pc,.int .i64 fn.results,.slice qh fn.homes.length ch,.slice qs fn.slots.length cs,.slice qb fn.blocks.length cb] 71 (0,0))) ((W.alloc (.cells (uC (List.replicate fn.homes.length 0)).toArray 90 (0,0))).alloc (.cells #[.slice qb fn.blocks.length cb,.int .i64 0,.int .i64 0,.slice (some ⟨W.heap.size,0,none⟩) fn.homes.length fn.homes.length,.slice none 0 0,.slice op outs.length oc] 328 (0,0))).drew:=(b2.block _ (Zi hS1)).trans hS1;refine kO hK hS2 (fun hHeld3=>?_);clear hK K;refine tV 9 ?v9 ?hy9 ?_;case hy9 =>
  intro V hV;try dsimp only at hV
  clear hV;go_simp;all_goals (with_reducible rfl)
 simp only [Act.put,zA,zB,zC,zD,zE,zF];refine wpAnyH_done (by kernel_rfl) ?_ _;clear hHeld hHeld2 hHeld3;rw [z1] at r2 z2;have hr1:=(b2.block _ (Zi r1)).trans r1;have hB3:Below W.heap.size W ((W.alloc (.cells (uC (List.replicate fn.homes.length 0)).toArray 90 (0,0))).alloc (.cells #[.slice qb fn.blocks.length cb,.int .i64 0,.int .i64 0,.slice (some ⟨W.heap.size,0,none⟩) fn.homes.length fn.homes.length,.slice none 0 0,.slice op outs.length oc] 328 (0,0))).drew:=(Zc b1 b2 (by omega)).drew;have HF:=O (show Ia w0 ((W.alloc (.cells (uC (List.replicate fn.homes.length 0)).toArray 90 (0,0))).alloc (.cells #[.slice qb fn.blocks.length cb,.int .i64 0,.int .i64 0,.slice (some ⟨W.heap.size,0,none⟩) fn.homes.length fn.homes.length,.slice none 0 0,.slice op outs.length oc] 328 (0,0))).drew ⟨fn,0,0,List.replicate fn.homes.length 0,[],outs⟩ (W.heap.size+1) W.heap.size ((W.alloc (.cells (uC (List.replicate fn.homes.length 0)).toArray 90 (0,0))).alloc (.cells #[.slice qb fn.blocks.length cb,.int .i64 0,.int .i64 0,.slice (some ⟨W.heap.size,0,none⟩) fn.homes.length fn.homes.length,.slice none 0 0,.slice op outs.length oc] 328 (0,0))).drew.heap.size W.heap.size qb none op cb 0 oc [] B from
  ⟨by omega,by show _<((W.alloc (.cells (uC (List.replicate fn.homes.length 0)).toArray 90 (0,0))).alloc (.cells #[.slice qb fn.blocks.length cb,.int .i64 0,.int .i64 0,.slice (some ⟨W.heap.size,0,none⟩) fn.homes.length fn.homes.length,.slice none 0 0,.slice op outs.length oc] 328 (0,0))).heap.size; omega,by omega,by show _<((W.alloc (.cells (uC (List.replicate fn.homes.length 0)).toArray 90 (0,0))).alloc (.cells #[.slice qb fn.blocks.length cb,.int .i64 0,.int .i64 0,.slice (some ⟨W.heap.size,0,none⟩) fn.homes.length fn.homes.length,.slice none 0 0,.slice op outs.length oc] 328 (0,0))).heap.size; omega,by omega,Nat.le_refl _,by simp only [List.length_replicate,List.length_nil]; exact r2,hr1,World.ownsRow_nil _ _ _ _,fun g e=>(by cases e),rfl,fun k hk=>(by simp at hk),fun j k _ hk=>(by simp at hk),(J HD).bs,(J HD).each,J HOU⟩)
 have HB3:=O hB3;have HS3:=O hS2;clear r1 b1 z1 r2 b2 z2 hS1 hS2 hr1 hB3;generalize World.drew (World.alloc (World.alloc W _) _)=V3 at HF HB3 HS3 ⊢;have f3:=cR (J HS3) 3;have HB0W:=O (Zc (J HB0) (J HBW) (J HB0).size);go_wp2_with fail
 clear f3;refine Yhw w0 W V3 ⟨fn,0,0,List.replicate fn.homes.length 0,[],outs⟩ (W.heap.size+1) W.heap.size W.heap.size qb op qs cb oc cs fn.slots B _ _ _ _ _ _ _ _ _ _ _ _ _ _ _ _ _ _ _ _ _ _ _ _ _ _ _ _ _ _ _ _ _ _ _ _ _ _ _ _ _ _ _ _ _ _ _ _ _ _ _ _ _ _ _ _ _ _ _ _ _ _ _ _ _ _ _ _ _ _ _ _ _ _ _ _ _ _ _ _ rfl rfl (J HB0W) (J HD).ss (J HNS) hnl (J HN0) (J HF) (J HB3) ?_;intro w1 sp sc gs hF1 hb1 u9 u24 u25 u26 u27 u28 u29 u30 u31 u32 u33 u34 u35 u36 u37 u38 u39 u40;rw [List.take_length] at hF1;have hzb:=J HZ0;have hs1:=(hb1.block w.heap.size (by omega)).trans (J HS0);have f0:=cR hs1 0;have HF1:=O hF1;have HB1:=O hb1;clear hF1 hb1 hs1 HF HB3 HS3 hzb;go_wp2_with fail
 clear f0;refine Yhx w0 W w1 ⟨fn,0,0,List.replicate fn.homes.length 0,[],outs⟩ (W.heap.size+1) W.heap.size w1.heap.size W.heap.size qb sp op pp wp cb sc oc pc wc gs B fn.params ws (List.replicate fn.homes.length 0) (fn.slots.map fun n=>List.replicate (8*n).toNat 0) _ _ _ _ _ _ _ _ _ _ _ _ _ _ _ _ _ _ _ _ _ _ _ _ _ _ _ _ _ _ _ _ _ _ _ _ _ _ _ _ _ _ _ _ _ _ _ _ _ _ _ _ _ _ _ _ _ _ _ _ _ _ _ _ _ _ _ _ _ _ _ _ _ _ _ _ _ _ _ (Nat.le_refl _) (J HB0W) (J HD).ps hpl (J HPW) (J HP) (J HLW) (J HWL) (J HWS) ?s1 (J HF1) (J HB1) ?s2 ?_;case s1 =>
  intro l hl;obtain⟨n,hn,rfl⟩:=List.mem_map.1 hl;obtain⟨i,hi,hi2⟩:=List.getElem_of_mem hn;have:=J HNS i hi;rw [Ma fn.slots 0 i hi,hi2] at this;simp
  omega
 case s2 =>
  refine⟨fun n hn=>?_,fun l hl n hn=>?_⟩
  ·rw [List.eq_of_mem_replicate hn]; omega
  ·obtain⟨k,-,rfl⟩:=List.mem_map.1 hl;rw [List.eq_of_mem_replicate hn]; omega
 intro w2 hF2 hO2 hok2 u1 u11 u44 u45 u46 u47 u48 u49 u50 u51 u52 u53 u54 u55 u56 u57 u58 u59 u60 u61 u62 u63 u64 u65 u66 u67 u68 u69 u70 u71 u72 u73 u74 u75 u76 u77 u78 u79 u80 u81;have hz:=J HZ0;have HF2:=O hF2;have HOK2:=O hok2;have HB2:=O (show Below w.heap.size w w2 by have h1:=Zc (J HBW) (J HB1) (by omega);have h1z:=h1.size;have h2:=(J HB1).size;exact⟨hO2.os.trans h1.os,hO2.tape.trans h1.tape,hO2.output.trans h1.output,Nat.le_trans h1z hO2.size,fun q hq=>(hO2.oth q (by omega) (Or.inl (by omega))).trans (h1.block q hq)⟩)
 clear hF2 hO2 hok2 HF1 HB1 hz;go_wp2;go_ret;have hz9:w.heap.size<=W.heap.size:=by have:=J HZ0; omega
 first
  | exact⟨W.heap.size+1,W.heap.size,_,_,_,_,_,rfl,hz9,J HF2,J HB2,J HOK2⟩
  | exact⟨W.heap.size+1,rfl,W.heap.size,hz9,⟨_,_,_,_,_,J HF2⟩,J HB2,J HOK2⟩
structure Mi (P:Zk):Prop where
 cnt:Jf P=true
 head:∃(r:Int) (own:List Int),∀ k,k<P.funcs.length->Yv r own (P.funcs.getD k Zh)=true
 body:∀ k,k<P.funcs.length->Oc P (P.funcs.getD k Zh)=true
 sm:∀ k,k<P.funcs.length->(P.funcs.getD k Zh).slots.length=0∧∀ j,j<(P.funcs.getD k Zh).params.length->((P.funcs.getD k Zh).params.getD j (0,0)).1=0
 word:∀ f ∈ P.funcs,∀ l ∈ f.blocks,∀ i ∈ l,(0<=i.n∧i.n<18446744073709551616)∧(i.op=3∨i.op=16)
def FnG (P:Zk)(f:Zj):Prop:=∃ k,k<P.funcs.length∧f=P.funcs.getD k Zh
structure FnH (f:Zj):Prop where
 pl:f.params.length<=8
 pw:∀ k,k<f.params.length->0<=(f.params.getD k (0,0)).1∧(f.params.getD k (0,0)).1<=8∧Ll f (f.params.getD k (0,0))=true
 r0:0<=f.results
 r1:f.results<=4
 hl:f.homes.length<=12
 sl:f.slots.length<=6
 sw:∀ k,k<f.slots.length->1<=f.slots.getD k 0∧f.slots.getD k 0<=8
 b1:1<=f.blocks.length
 b12:f.blocks.length<=12
 bk:∀ k,k<f.blocks.length->1<=(f.blocks.getD k []).length∧(f.blocks.getD k []).length<=24
 n0:f.slots.length=0
 p0:∀ j,j<f.params.length->(f.params.getD j (0,0)).1=0
theorem Rq {n lo hi:Int}(h:Xl n lo hi=true):lo<=n∧n<=hi:=of_decide_eq_true h
theorem Om {α β:Type}(l:List α)(f:α->β)(a:α)(b:β)(k:Nat)(h:k<l.length):(l.map f).getD k b=f (l.getD k a):=by simp [List.getD,h]
theorem Yei {r:Int}{own:List Int}{f:Zj}(h:Yv r own f=true)(hn0:f.slots.length=0)(hp0:∀ j,j<f.params.length->(f.params.getD j (0,0)).1=0):FnH f:=by
 unfold Yv Od Jw at h;simp only [Bool.and_eq_true,decide_eq_true_eq] at h;obtain⟨h1,⟨-,h2,h3⟩,h4,-,h5,h6,h7,h8,h9⟩:=h;have h2:=Rq h2;have h7:=Rq h7;refine⟨h1,fun k hk=>?_,h2.1,h2.2,h4,h5,fun k hk=>Rq (Je h6 hk),by omega,by omega,fun k hk=>?_,hn0,hp0⟩
 ·have a:=Rq (Je h3 (k:=k) (by simpa using hk));rw [Om f.params (·.1) (0,0) 0 k hk] at a;have b:=Je h9 hk;unfold Ck at b;simp only [Bool.and_eq_true] at b;exact⟨a.1,a.2,b.1⟩
 ·have a:=Rq (Je h8 hk);omega
theorem Mi.fnH {P:Zk}(h:Mi P){f:Zj}(hf:FnG P f):FnH f:=by obtain⟨k,hk,rfl⟩:=hf;obtain⟨r,own,hh⟩:=h.head;exact Yei (hh k hk) (h.sm k hk).1 (h.sm k hk).2
structure Ygs (P:Zk)(f:Zj)(i:Yb)(last:Bool):Prop where
 op0:1<=i.op
 op1:i.op<=18
 lst:decide (14<=i.op)=last
 fld:Zn P f i=true
 n0:0<=i.n
 n1:i.n<18446744073709551616
 on:i.op=3∨i.op=16
theorem Mi.insG {P:Zk}(h:Mi P){f:Zj}(hf:FnG P f){b i:Nat}(hb:b<f.blocks.length)(hi:i<(f.blocks.getD b []).length):Ygs P f ((f.blocks.getD b []).getD i Jo) (decide (i+1=(f.blocks.getD b []).length)):=by obtain⟨k,hk,rfl⟩:=hf;have hq:=Je (Je (h.body k hk) hb) hi;unfold Zif Zai at hq;simp only [Bool.and_eq_true,beq_iff_eq] at hq;obtain⟨h1,h2,-,h4⟩:=hq;have h1:=Rq h1;have hw:=h.word (P.funcs.getD k Zh) (by rw [Ma _ _ _ hk]; exact List.getElem_mem _) ((P.funcs.getD k Zh).blocks.getD b []) (by rw [Ma _ _ _ hb]; exact List.getElem_mem _) (((P.funcs.getD k Zh).blocks.getD b []).getD i Jo) (by rw [Ma _ _ _ hi]; exact List.getElem_mem _);exact⟨h1.1,h1.2,h2,h4,hw.1.1,hw.1.2,hw.2⟩
section
variable {P:Zk} {f:Zj} {i:Yb}
theorem Ygt (h:Zn P f i=true)(ho:i.op<=11∨i.op=15):0<=i.d∧i.d<f.homes.length:=by
 unfold Zn at h;repeat' split at h
 all_goals try (exfalso; omega)
 all_goals (simp only [Bool.and_eq_true,Zw,Xl,decide_eq_true_eq] at h; omega)
theorem Ygu (h:Zn P f i=true)(ho:2<=i.op∧i.op<=9):0<=i.a∧i.a<f.homes.length:=by
 unfold Zn at h;repeat' split at h
 all_goals try (exfalso; omega)
 all_goals (simp only [Bool.and_eq_true,Zw,Xl,decide_eq_true_eq] at h; omega)
theorem Ygv (h:Zn P f i=true)(ho:3<=i.op∧i.op<=9):0<=i.bb∧i.bb<f.homes.length:=by
 unfold Zn at h;repeat' split at h
 all_goals try (exfalso; omega)
 all_goals (simp only [Bool.and_eq_true,Zw,Xl,decide_eq_true_eq] at h; omega)
theorem Yaf (h:Zn P f i=true)(ho:i.op=16):(i.outs.length:Int)=f.results∧Jp f i.outs=true:=by unfold Zn at h;simp only [ho] at h;simpa using h
theorem Zmj {l:List Int}(h:Jp f l=true):∀ k,k<l.length->0<=l.getD k 0∧l.getD k 0<f.homes.length:=fun k hk=>by
 have:=Rq (Je h hk);omega
end
structure Sz (P:Zk)(x:Ud):Prop where
 fn:FnG P x.fn
 b0:0<=x.b
 b1:x.b<x.fn.blocks.length
 i0:0<=x.i
 i1:x.i<(x.fn.blocks.getD x.b.toNat []).length
 v:x.v.length=x.fn.homes.length
 s:x.s.map List.length=x.fn.slots.map fun n=>(8*n).toNat
 ok:IOk x
section
variable {P:Zk} {x:Ud}
theorem Sz.slen (h:Sz P x):x.s.length=x.fn.slots.length:=by have:=congrArg List.length h.s;simpa using this
theorem Sz.slot (h:Sz P x){k:Nat}(hk:k<x.s.length):(x.s.getD k []).length=(8*x.fn.slots.getD k 0).toNat:=by
 have e:(x.s.map List.length).getD k 0=(x.fn.slots.map fun n=>(8*n).toNat).getD k 0:=by rw [h.s]
 rw [Om x.s List.length [] 0 k hk,Om x.fn.slots (fun n=>(8*n).toNat) 0 0 k (by rw [← h.slen]; exact hk)] at e;exact e
theorem Sz.small (h:Sz P x)(hG:Mi P):∀ l ∈ x.s,l.length<=65536:=fun l hl=>by
 obtain⟨k,hk,rfl⟩:=List.getElem_of_mem hl;have e:=h.slot hk;have:=(hG.fnH h.fn).sw k (by rw [← h.slen]; exact hk);rw [Ma x.s [] k hk] at e;omega
theorem Sz.insG (h:Sz P x)(hG:Mi P):Ygs P x.fn (Yi x) (decide (x.i.toNat+1=(x.fn.blocks.getD x.b.toNat []).length)):=by have h1:=h.b0;have h2:=h.b1;have h3:=h.i0;have h4:=h.i1;exact hG.insG h.fn (by omega) (by omega)
theorem Sz.next (h:Sz P x)(hG:Mi P)(ho:(Yi x).op<14):Sz P (Ju x):=by have hi:=(h.insG hG).lst;have h3:=h.i0;have h4:=h.i1;rw [decide_eq_false (by omega)] at hi;have hi:=of_decide_eq_false hi.symm;exact⟨h.fn,h.b0,h.b1,by show 0<=x.i+1; omega,by show x.i+1<_; unfold Ju; simp only; omega,h.v,h.s,⟨h.ok.v,h.ok.s⟩⟩
theorem Sz.at_ (h:Sz P x)(hG:Mi P){t:Int}(h0:0<=t)(h1:t<x.fn.blocks.length):Sz P { x with b:=t,i:=0 }:=by have:=(hG.fnH h.fn).bk t.toNat (by omega);exact⟨h.fn,h0,h1,Int.le_refl 0,by show(0:Int)<(x.fn.blocks.getD t.toNat []).length; omega,h.v,h.s,⟨h.ok.v,h.ok.s⟩⟩
theorem Zdl {l:List Int}{k:Nat}{n m:Int}(h:m ∈ l.set k n):m ∈ l∨m=n:=by
 rcases List.mem_or_eq_of_mem_set h with h | h
 ·exact Or.inl h
 ·exact Or.inr h
theorem Sz.setV (h:Sz P x)(k:Nat){n:Int}(h0:0<=n)(h1:n<18446744073709551616):Sz P { x with v:=x.v.set k n } :=
 ⟨h.fn,h.b0,h.b1,h.i0,h.i1,by simp [h.v],h.s,⟨fun m hm=>by
  rcases Zdl hm with hm | rfl
  ·exact h.ok.v m hm
  ·exact⟨h0,h1⟩,h.ok.s⟩⟩
theorem Zov {l:List Int}(h:∀ n ∈ l,0<=n∧n<18446744073709551616)(k:Nat):0<=l.getD k 0∧l.getD k 0<18446744073709551616:=by
 by_cases hk:k<l.length
 ·exact h _ (Zdj hk 0)
 ·simp [List.getD,hk]
theorem Sz.bytes (h:Sz P x)(k:Nat):∀ n ∈ x.s.getD k [],0<=n∧n<256:=by
 by_cases hk:k<x.s.length
 ·rw [Ma _ _ _ hk]; exact h.ok.s _ (List.getElem_mem _)
 ·intro n hn; simp [List.getD,hk] at hn
theorem Yag {v ds vs:List Int}(hv:∀ n ∈ v,0<=n∧n<18446744073709551616)(hw:∀ n ∈ vs,0<=n∧n<18446744073709551616):∀ n ∈ Zhd v ds vs,0<=n∧n<18446744073709551616:=by
 unfold Zhd;induction ds generalizing v vs with
 | nil=>simpa using hv
 | cons d ds ih =>
  cases vs with
  | nil=>simpa using hv
  | cons a vs =>
   simp only [List.zip_cons_cons,List.foldl_cons];refine ih (fun n hn=>?_) (fun n hn=>hw n (List.mem_cons_of_mem _ hn));rcases Zdl hn with hn | rfl
   ·exact hv n hn
   ·exact hw _ List.mem_cons_self
theorem Sz.setVs (h:Sz P x)(ds:List Int){vs:List Int}(hw:∀ n ∈ vs,0<=n∧n<18446744073709551616):Sz P { x with v:=Zhd x.v ds vs } :=
 ⟨h.fn,h.b0,h.b1,h.i0,h.i1,by simp [Zvd,h.v],h.s,⟨Yag h.ok.v hw,h.ok.s⟩⟩
theorem Zvl (n:Int):0<=IntKind.u64.wrap n∧IntKind.u64.wrap n<18446744073709551616:=by
 have:IntKind.u64.wrap n=n % 18446744073709551616:=by simp [IntKind.wrap,IntKind.bits,IntKind.signed]
 omega
theorem Yah (op a b:Int):0<=Zau op a b∧Zau op a b<18446744073709551616:=by
 unfold Zau;repeat' split
 all_goals first | exact Zvl _ | omega
theorem Sz.loc (h:Sz P x)(hG:Mi P)(h16:(Yi x).op<16):Sz P (Zew (Ju x) (Yi x)):=by
 have g:=h.insG hG;have hv:=h.ok.v;generalize hi:Yi x=i at g h16 ⊢;have ho:i.op=3:=by rcases g.on with h | h <;> omega
 have hn:=h.next hG (by rw [hi]; omega);unfold Zew;repeat' split
 all_goals try (exfalso; omega)
 have:=Yah i.op (x.v.getD i.a.toNat 0) (x.v.getD i.bb.toNat 0);exact hn.setV _ this.1 this.2
theorem Zvm (hok:IOk x)(l:List Int):∀ n ∈ Mh x.v l,0<=n∧n<18446744073709551616:=fun n hn=>by
 obtain⟨k,-,rfl⟩:=List.mem_map.1 hn;exact Zov hok.v _
theorem Yai {f:Zj}(hv:x.v.length=f.homes.length)(hs:x.s.map List.length=f.slots.map fun n=>(8*n).toNat){a:Int×Int}(h:Ll f a=true)(h0:0<=a.1)(h8:a.1<=8):Ygr x a:=by
 unfold Ll at h;have hsl:x.s.length=f.slots.length:=by have:=congrArg List.length hs; simpa using this
 split at h
 ·rename_i hz;have:=Rq h;exact⟨h0,h8,by omega,fun _=>by omega,fun hn=>absurd hz hn⟩
 ·rename_i hz;simp only [Bool.and_eq_true,decide_eq_true_eq] at h;have h1:=Rq h.1;have h2:=h.2;refine⟨h0,h8,h1.1,fun hn=>absurd hn hz,fun _=>⟨by omega,?_⟩⟩;have hk:a.2.toNat<x.s.length:=by omega
  have e:(x.s.map List.length).getD a.2.toNat 0=(f.slots.map fun n=>(8*n).toNat).getD a.2.toNat 0:=by rw [hs]
  rw [Om x.s List.length [] 0 _ hk,Om f.slots (fun n=>(8*n).toNat) 0 0 _ (by omega),h2] at e;omega
theorem Yej {f:Zj}(hH:FnH f):(∀ k,k<(Jw f).1.length->0<=(Jw f).1.getD k 0∧(Jw f).1.getD k 0<=8)∧(Jw f).1.length<=8:=by
 unfold Jw;refine⟨fun k hk=>?_,by simpa using hH.pl⟩;have hk':k<f.params.length:=by simpa using hk
 simp only;rw [Om f.params (·.1) (0,0) 0 k hk'];exact⟨(hH.pw k hk').1,(hH.pw k hk').2.1⟩
theorem Zdm:∀(l:List (Int×Int)) (v:List Int) (s:List (List Int)) (ws:List Int),(Sy l v s ws).1.length=v.length∧(Sy l v s ws).2.map List.length=s.map List.length
 | [],v,s,ws=>⟨rfl,rfl⟩
 | p :: r,v,s,ws=>by
  unfold Sy;split
  ·have:=Zdm r (v.set p.2.toNat (ws.getD 0 0)) s (ws.drop 1);simpa using this
  ·have:=Zdm r v (s.set p.2.toNat (Zou (s.getD p.2.toNat []) (ws.take p.1.toNat))) (ws.drop p.1.toNat);exact⟨this.1,this.2.trans (Yaa _ _ _ (Zrf _ _))⟩
theorem Zhf:∀(l:List (Int×Int)) (v:List Int) (s:List (List Int)) (ws:List Int),(∀ n ∈ v,0<=n∧n<18446744073709551616)->(∀ l ∈ s,∀ n ∈ l,0<=n∧n<256)->(∀ n ∈ ws,0<=n∧n<18446744073709551616)->(∀ n ∈ (Sy l v s ws).1,0<=n∧n<18446744073709551616)∧∀ z ∈ (Sy l v s ws).2,∀ n ∈ z,0<=n∧n<256
 | [],v,s,ws,hv,hs,_=>⟨hv,hs⟩
 | p :: r,v,s,ws,hv,hs,hw=>by
  unfold Sy;split
  ·refine Zhf r _ s _ (fun n hn=>?_) hs (fun n hn=>hw n (List.mem_of_mem_drop hn));rcases Zdl hn with hn | rfl
   ·exact hv n hn
   ·exact Zov hw 0
  ·refine Zhf r v _ _ hv (fun l hl=>?_) (fun n hn=>hw n (List.mem_of_mem_drop hn));rcases List.mem_or_eq_of_mem_set hl with hl | rfl
   ·exact hs l hl
   ·refine Zvj ?_ _;by_cases hk:p.2.toNat<s.length
    ·rw [Ma _ _ _ hk]; exact hs _ (List.getElem_mem _)
    ·intro n hn; simp [List.getD,hk] at hn
theorem Yek (hG:Mi P){f:Zj}(hf:FnG P f){ws:List Int}(hw:∀ n ∈ ws,0<=n∧n<18446744073709551616)(o:List Int):Sz P (Im f ws o):=by
 have hH:=hG.fnH hf;have h1:=hH.b1;have h2:=hH.bk 0 (by omega);have hl:=Zdm f.params (List.replicate f.homes.length 0) (f.slots.map fun n=>List.replicate (8*n).toNat 0) ws;have hb:=Zhf f.params (List.replicate f.homes.length 0) (f.slots.map fun n=>List.replicate (8*n).toNat 0) ws (fun n hn=>by rw [List.eq_of_mem_replicate hn]; omega) (fun l hl n hn=>by
  obtain⟨k,-,rfl⟩:=List.mem_map.1 hl;rw [List.eq_of_mem_replicate hn]; omega) hw
 exact⟨hf,Int.le_refl 0,by show(0:Int)<f.blocks.length; omega,Int.le_refl 0,by show(0:Int)<(f.blocks.getD 0 []).length; omega,by show(Sy _ _ _ _).1.length=f.homes.length; rw [hl.1]; simp,by show(Sy _ _ _ _).2.map List.length=f.slots.map _; rw [hl.2]; simp [List.map_map,Function.comp_def],⟨hb.1,hb.2⟩⟩
theorem Yel {f:Zj}(hH:FnH f):∀ k,k<f.params.length->Zvi (List.replicate f.homes.length 0) (f.slots.map fun n=>List.replicate (8*n).toNat 0) (f.params.getD k (0,0)):=fun k hk=>by
 obtain⟨h0,h8,hs⟩:=hH.pw k hk;have:=Yai (x:=⟨f,0,0,List.replicate f.homes.length 0,f.slots.map fun n=>List.replicate (8*n).toNat 0,[]⟩) (by simp) (by simp) hs h0 h8;exact⟨h0,h8,this.f0,this.v,this.s⟩
end
def Io:Type:=(List Ud×List Int×List (Int×List Int)) ⊕ ((List Int×List Int×List (Int×List Int)) ⊕ (Int×List Int×List (Int×List Int)))
abbrev Io.go (st:List Ud)(sc:List Int)(tr:List (Int×List Int)):Io:=.inl (st,sc,tr)
abbrev Io.done (l:List Int)(sc:List Int)(tr:List (Int×List Int)):Io:=.inr (.inl (l,sc,tr))
abbrev Io.trap (c:Int)(sc:List Int)(tr:List (Int×List Int)):Io:=.inr (.inr (c,sc,tr))
theorem Io.el {motive:Io->Prop}(r:Io)(go:∀ st sc tr,motive (.go st sc tr))(done:∀ l sc tr,motive (.done l sc tr))(trap:∀ c sc tr,motive (.trap c sc tr)):motive r :=
 match r with
 | .inl (st,sc,tr)=>go st sc tr
 | .inr (.inl (l,sc,tr))=>done l sc tr
 | .inr (.inr (c,sc,tr))=>trap c sc tr
theorem Io.go_inj {a a':List Ud}{b b':List Int}{c c':List (Int×List Int)}(h:Io.go a b c=Io.go a' b' c'):a=a'∧b=b'∧c=c':=by injection h with h;injection h with h1 h;injection h with h2 h3;exact⟨h1,h2,h3⟩
def stp (P:Zk)(x:Ud)(R:List Ud)(sc:List Int)(tr:List (Int×List Int)):Io :=
 if (Yi x).op=12 then .go (Zhe P (Ju x) (Yi x) (Yi x).outs :: Ju x :: R) sc tr
 else if (Yi x).op=13 then .go ({ Ju x with v:=Zhd x.v (Yi x).outs (Yck sc (Yi x).outs.length) } :: R) (sc.drop (Yi x).outs.length) (tr++[((Yi x).f,Zvk x (Yi x).args)])
 else if (Yi x).op=16 then
  match R with
  | []=>.done (Mh x.v (Yi x).outs) sc tr
  | c :: R'=>.go ({ c with v:=Zhd c.v x.o (Mh x.v (Yi x).outs) } :: R') sc tr
 else if (Yi x).op=17 then .go (Zhe P (Ju x) (Yi x) x.o :: R) sc tr
 else if (Yi x).op=18 then .trap (Yi x).n sc tr
 else .go (Zew (Ju x) (Yi x) :: R) sc tr
def Io.run (P:Zk)(n:Nat):Io->Rp
 | .inl (st,sc,tr)=>ev P n st sc tr
 | .inr (.inl (l,sc,tr))=>.done l n sc tr
 | .inr (.inr (c,sc,tr))=>.trap c n sc tr
theorem Yem (P:Zk)(n:Nat)(x:Ud)(R:List Ud)(sc:List Int)(tr:List (Int×List Int)):ev P (n+1) (x :: R) sc tr=(stp P x R sc tr).run P n:=by
 conv=>lhs; unfold ev
 unfold stp;by_cases h12:(Yi x).op=12
 ·rw [if_pos h12,if_pos h12]; rfl
 rw [if_neg h12,if_neg h12];by_cases h13:(Yi x).op=13
 ·rw [if_pos h13,if_pos h13]; rfl
 rw [if_neg h13,if_neg h13];by_cases h16:(Yi x).op=16
 ·rw [if_pos h16,if_pos h16];cases R <;> rfl
 rw [if_neg h16,if_neg h16];by_cases h17:(Yi x).op=17
 ·rw [if_pos h17,if_pos h17]; rfl
 rw [if_neg h17,if_neg h17];by_cases h18:(Yi x).op=18
 ·rw [if_pos h18,if_pos h18]; rfl
 rw [if_neg h18,if_neg h18];rfl
def WfS (P:Zk):List Ud->Prop
 | []=>False
 | [x]=>Sz P x∧x.o=[]
 | x :: c :: R=>Sz P x∧(x.o.length:Int)=x.fn.results∧(∀ k,k<x.o.length->0<=x.o.getD k 0∧x.o.getD k 0<c.v.length)∧WfS P (c :: R)
section
variable {P:Zk} {x y:Ud} {R:List Ud}
theorem WfS.top (h:WfS P (x :: R)):Sz P x:=by
 cases R with
 | nil=>exact h.1
 | cons c R=>exact h.1
theorem WfS.swap (h:WfS P (x :: R))(hy:Sz P y)(ho:y.o=x.o)(hr:y.fn.results=x.fn.results):WfS P (y :: R):=by
 cases R with
 | nil=>exact⟨hy,ho.trans h.2⟩
 | cons c R=>exact⟨hy,by rw [ho,hr]; exact h.2.1,by rw [ho]; exact h.2.2.1,h.2.2.2⟩
theorem Yaj (y:Ud)(i:Yb):(Zew y i).fn=y.fn:=by
 unfold Zew;repeat' split
 all_goals rfl
theorem Yen (hG:Mi P)(h:Sz P x)(h16:(Yi x).op=16):((Yi x).outs.length:Int)=x.fn.results∧(Yi x).outs.length<=4∧∀ k,k<(Yi x).outs.length->0<=(Yi x).outs.getD k 0∧(Yi x).outs.getD k 0<x.v.length:=by obtain⟨h1,h2⟩:=Yaf (h.insG hG).fld h16;have:=(hG.fnH h.fn).r1;exact⟨h1,by omega,by rw [h.v]; exact Zmj h2⟩
theorem Yeo (hG:Mi P)(h:WfS P (x :: R)){sc:List Int}(hsc:∀ n ∈ sc,0<=n∧n<18446744073709551616)(tr:List (Int×List Int)):∀{st sc' tr'},stp P x R sc tr=.go st sc' tr'->WfS P st∧∀ n ∈ sc',0<=n∧n<18446744073709551616:=by
 intro st sc' tr' he;have hx:=h.top;have hon:=(hx.insG hG).on;unfold stp at he;have h12:¬ (Yi x).op=12:=by omega
 rw [if_neg h12] at he;have h13:¬ (Yi x).op=13:=by omega
 rw [if_neg h13] at he;by_cases h16:(Yi x).op=16
 ·rw [if_pos h16] at he;cases R with
  | nil=>cases he
  | cons c R'=>obtain⟨e1,e2,e3⟩:=Io.go_inj he;subst e1 e2;exact⟨h.2.2.2.swap (h.2.2.2.top.setVs _ (Zvm hx.ok _)) rfl rfl,hsc⟩
 rw [if_neg h16] at he;have h17:¬ (Yi x).op=17:=by omega
 rw [if_neg h17] at he;have h18:¬ (Yi x).op=18:=by omega
 rw [if_neg h18] at he;obtain⟨e1,e2,e3⟩:=Io.go_inj he;subst e1 e2;have:=(hx.insG hG).op1;exact⟨h.swap (hx.loc hG (by omega)) (Yeh _ _) (by rw [Yaj]; rfl),hsc⟩
end
theorem Yae {g j:Nat}{w U:World}{v:Value}(h:Below w.heap.size w U)(hz:U.heap.size=w.heap.size):One g w (U.setCell ⟨g,j,none⟩ v):=⟨h.os,h.tape,h.output,by simpa using hz,fun q hq=>(heap_setCell_other _ _ _ _ hq).trans (by
 by_cases hl:q<w.heap.size
 ·exact h.block q hl
 ·rw [Array.getElem?_eq_none (by omega),Array.getElem?_eq_none (by omega)])⟩
set_option maxHeartbeats 8000000
set_option maxRecDepth 100000
theorem Ziz (p q:Addr)(w:World) :
 CallsD Tryz.prog 81 #[.pointer (some p),.pointer (some q)] .returning w fun e u' w'=>e=.returned (.tuple #[])∧u'=.returning∧w'=w:=by
 refine callsD_of_wpS Tryz.func81 rfl fun c₀ cs hu=>?_;apply wpS_seq
 apply wpS_region
 simp [wpOpsS,go_sem,recoverD,hu,Tryz.ntmps81,Exit.thenS];refine wpS_of_wp ?_;go_wp2;cases c₀
 simp_all [bodyPostS,results,Tryz.results81]
theorem Tryz.fieldWrongD (g:Nat)(u:World):Sem.run Tryz.prog (Instr.field 189 (.agg #[.iface 130 (.pointer (some ⟨g,0,none⟩))]) 0) u=.ok (.iface 130 (.pointer (some ⟨g,0,none⟩))) u:=by kernel_rfl
theorem Kz (p q g:Nat)(x x' y:Value)(w:World)(hp:w.cell? ⟨p,0,none⟩=some x)(hp':w.cell? ⟨p,1,none⟩=some x')(hpf:∀ j,w.frozen? ⟨p,j,none⟩=false)(hq:w.cell? ⟨q,0,none⟩=some y)(hqf:w.frozen? ⟨q,0,none⟩=false)(hpq:p≠q) :
 CallsD Tryz.prog 81 #[.pointer (some ⟨p,0,none⟩),.pointer (some ⟨q,0,none⟩)] (.panicking (Ou g)) w fun e u' w'=>e=.returned (.tuple #[])∧u'=.panicking ((Ou g).map fun t=>{ t with recovered:=true })∧w'=((w.drew.setCell ⟨p,0,none⟩ (.slice none 0 0)).setCell ⟨p,1,none⟩ (.slice none 0 0)).setCell ⟨q,0,none⟩ (.iface 130 (.pointer (some ⟨g,0,none⟩))):=by
 refine callsD_of_wpS Tryz.func81 rfl fun c₀ cs hu=>?_;apply wpS_seq
 apply wpS_region
 unfold Ou at hu;simp [wpOpsS,go_sem,recoverD,hu,Tryz.ntmps81,Exit.thenS];refine wpS_of_wp ?_;go_wp2;have ht:(#[Value.pointer (some ⟨p,0,none⟩),Value.pointer (some ⟨q,0,none⟩)]++((((Array.replicate 8 undef).setIfInBounds 1 (Value.iface 189 (Value.agg #[Value.iface 130 (Value.pointer (some ⟨g,0,none⟩))]))).setIfInBounds 0 (Value.iface 189 (Value.agg #[Value.iface 130 (Value.pointer (some ⟨g,0,none⟩))]))).setIfInBounds 2 (Value.iface 189 (Value.agg #[Value.iface 130 (Value.pointer (some ⟨g,0,none⟩))]))).setIfInBounds 3 (Value.bool true))=#[Value.pointer (some ⟨p,0,none⟩),Value.pointer (some ⟨q,0,none⟩),Value.iface 189 (Value.agg #[Value.iface 130 (Value.pointer (some ⟨g,0,none⟩))]),Value.iface 189 (Value.agg #[Value.iface 130 (Value.pointer (some ⟨g,0,none⟩))]),Value.iface 189 (Value.agg #[Value.iface 130 (Value.pointer (some ⟨g,0,none⟩))]),Value.bool true,undef,undef,undef,undef]:=rfl;rw [ht];have hta:=Tryz.assertWrong;have hfw:=Tryz.fieldWrongD g;go_region
 simp +zetaDelta [bodyPostS,results,Tryz.results81,Ou]
theorem Lb {B k j:Nat}{w u:World}(h:Ja B w u)(hk:k<B)(v:Value):Ja B w (u.setCell ⟨k,j,none⟩ v):=fun i h1 h2=>(heap_setCell_other _ _ _ _ (by show i≠k; omega)).trans (h i h1 h2)
theorem Rh {w u:World}{b T:Nat}{o:Obj}(h:w.heap[T]?=some o)(hg:w.grownBy u (some b))(hb:T≠b):u.heap[T]?=some o :=
 (hg.block T (Zi h) (by intro e; injection e with e; exact hb e)).trans h
def Zja (s:ByteArray)(w:World)(e:Ending)(w':World):Prop :=
 Below w.heap.size w w'∧match Ns s with
  | .ok p=>∃ v,e=.returned (.tuple #[v,.nilIface])∧Ov w' w.heap.size v p
  | .error (n,q)=>∃ g,e=.returned (.tuple #[.agg #[.slice none 0 0,.slice none 0 0],.iface 130 (.pointer (some ⟨g,0,none⟩))])∧w'.heap[g]?=some (.cells #[.iface 127 (.int .i64 n),.int .i64 (-1),.int .i64 (-1),.int .i64 q] 133 (0,0))∧w.heap.size<=g
theorem Zja.err {s:ByteArray}{w w1:World}{n:Int}{q g:Nat}(hO:Ns s=.error (n,q))(hb:Below w.heap.size w w1)(hg:w1.heap[g]?=some (.cells #[.iface 127 (.int .i64 n),.int .i64 (-1),.int .i64 (-1),.int .i64 q] 133 (0,0)))(hl:w.heap.size+2<=g)(u v x:Value) :
 Zja s w (.returned (.tuple #[.agg #[.slice none 0 0,.slice none 0 0],.iface 130 (.pointer (some ⟨g,0,none⟩))])) (((w1.drew.setCell ⟨w.heap.size,0,none⟩ u).setCell ⟨w.heap.size,1,none⟩ v).setCell ⟨w.heap.size+1,0,none⟩ x):=by
 unfold Zja;rw [hO];have hbd:Below w.heap.size w w1.drew:=hb.trans ⟨rfl,rfl,rfl,Nat.le_refl _,fun _ _=>rfl⟩;refine⟨Zy (Zy (Zy hbd (Nat.le_refl _) _) (Nat.le_refl _) _) (show w.heap.size<=w.heap.size+1 by omega) _,g,rfl,?_,by omega⟩;refine(heap_setCell_other _ _ _ _ (by show g≠w.heap.size+1; omega)).trans ((heap_setCell_other _ _ _ _ (by show g≠w.heap.size; omega)).trans ((heap_setCell_other _ _ _ _ (by show g≠w.heap.size; omega)).trans ?_));exact hg
theorem Zen (s:ByteArray)(w:World)(hs:s.size<=4000)(hon:OnD s)(hN:Zp w)(h1:2<w.heap.size):Calls Tryz.prog 49 #[.string s] w (Zja s w):=by
 have hmf:∀(fn:Fn) (first cap:Array Value) (w:World),(Instr.makeFunc fn first cap).run Tryz.prog w=.ok (.func fn first cap) w:=fun _ _ _ _=>rfl;have hO:Ns s=(match Zbk s 0 with | .error q=>.error (3,q) | .ok (p,a)=>if a<s.size then .error (3,a) else .ok p):=if_pos hs;have HO:=Zd hO;have HN:=Zd hN;have hs':¬ ((4000:Int)<s.size):=by omega
 clear hO hN;go_enter_defers Tryz.func49,Tryz.ntmps49
 go_wp2_with fail
 have hbel:Below w.heap.size w (((w.alloc (.cells #[.slice none 0 0,.slice none 0 0] 62)).alloc (.cells #[.nilIface] 93)).alloc (.cells #[.string s,.int .i64 0] 196)):=by go_grown
 have hr0:(((w.alloc (.cells #[.slice none 0 0,.slice none 0 0] 62)).alloc (.cells #[.nilIface] 93)).alloc (.cells #[.string s,.int .i64 0] 196)).heap[w.heap.size]?=some (.cells #[.slice none 0 0,.slice none 0 0] 62 (0,0)):=((Yf _ _ none).block _ (by simp; omega) (by simp)).trans (((Yf _ _ none).block _ (by simp) (by simp)).trans (heap_alloc_new _ _));have hr1:(((w.alloc (.cells #[.slice none 0 0,.slice none 0 0] 62)).alloc (.cells #[.nilIface] 93)).alloc (.cells #[.string s,.int .i64 0] 196)).heap[w.heap.size+1]?=some (.cells #[.nilIface] 93 (0,0)):=((Yf _ _ none).block _ (by simp) (by simp)).trans (heap_alloc2_new _ _ _);have hr2:(((w.alloc (.cells #[.slice none 0 0,.slice none 0 0] 62)).alloc (.cells #[.nilIface] 93)).alloc (.cells #[.string s,.int .i64 0] 196)).heap[w.heap.size+1+1]?=some (.cells #[.string s,.int .i64 0] 196 (0,0)):=by have:=heap_alloc_new ((w.alloc (.cells #[.slice none 0 0,.slice none 0 0] 62)).alloc (.cells #[.nilIface] 93)) (.cells #[.string s,.int .i64 0] 196);simpa using this
 have hsz:(((w.alloc (.cells #[.slice none 0 0,.slice none 0 0] 62)).alloc (.cells #[.nilIface] 93)).alloc (.cells #[.string s,.int .i64 0] 196)).heap.size=w.heap.size+1+1+1:=by simp
 generalize ((w.alloc _).alloc _).alloc _=W at hbel hr0 hr1 hr2 hsz ⊢;have hrd:Lv W (w.heap.size+1+1) s 0:=⟨(cR hr2 0),(cR hr2 1),frozen_of_row _ _ _ _ _ hr2,Nat.zero_le _,hs,hon⟩;refine(Zqh (w.heap.size+1+1) s 0 W hrd (by omega) ((Za HN).below h1 hbel)).mono ?_;rintro e w2 ⟨hg2,hm⟩;have hq0:=Rh hr0 hg2 (by omega);have hq1:=Rh hr1 hg2 (by omega);have hz2:=hg2.size;have cp0:=(cR hq0 0);have cp1:=(cR hq0 1);have fp:∀ j,w2.frozen? ⟨w.heap.size,j,none⟩=false:=fun j=>frozen_of_row _ _ _ _ _ hq0;have cq0:=(cR hq1 0);have fq:w2.frozen? ⟨w.heap.size+1,0,none⟩=false:=frozen_of_row _ _ _ _ _ hq1;have HB2:=Zd (hbel.trans (⟨hg2.os,hg2.tape,hg2.output,hg2.size,fun q hq=>hg2.block q (by omega) (by intro e; injection e with e; omega)⟩:Below w.heap.size W w2));have HQ0:=Zd hq0;have HQ1:=Zd hq1;clear hr0 hr1 hr2 hrd hbel hg2 hq0 hq1 HN;cases hd:Zbk s 0 with
 | error q=>rw [hd] at hm;obtain⟨g,rfl,hg,hgl⟩:=hm;have HOE:=Zd (show Ns s=.error (3,q) by rw [Za HO,hd]);have HTH:=Zd (Kz w.heap.size (w.heap.size+1) g _ _ _ w2 cp0 cp1 fp cq0 fq (by omega));have HF:=Zd (fun u v x=>Zja.err (w:=w) (Za HOE) (Za HB2) hg (by omega) u v x);clear hg HO hd;refine leaves_cons (f:=81) (args:=#[.pointer (some ⟨w.heap.size,0,none⟩),.pointer (some ⟨w.heap.size+1,0,none⟩)]) (by simp) (by simp [go_sem]) ?_;refine(Za HTH).mono ?_;rintro e u' w'' ⟨rfl,rfl,rfl⟩;simp [Leaves,settle,results,Tryz.results49,go_sem,Ou,cp0,cp1,cq0];exact Za HF _ _ _
 | ok p =>
  obtain⟨P,a⟩:=p;rw [hd] at hm;obtain⟨v,rfl,⟨fv,ev,rfl,hfv,hev⟩,hrd2⟩:=hm;have HV:=Zd (show Ov w2 W.heap.size (.agg #[fv,ev]) P from⟨fv,ev,rfl,hfv,hev⟩);obtain⟨fp',fc,hfs⟩:=hfv.shape;obtain⟨ep',ec,hes⟩:=hev.shape;generalize P.funcs.length=nf at hfs;generalize P.externs.length=ne at hes;subst hfs hes;have cr:=hrd2.c1;have hba:=hrd2.bd;have HRD:=Zd hrd2;clear hfv hev hrd2;by_cases hlt:a<s.size
  ·have hlt':(a:Int)<s.size:=by omega
   have HOE:=Zd (show Ns s=.error (3,a) by rw [Za HO,hd]; exact if_pos hlt);clear HO hd;go_wp2_with fail
   have hv0:=heap_setCell_same _ _ 1 _ _ (.slice ep' ne ec) (heap_setCell_same _ _ 0 _ _ (.slice fp' nf fc) (Za HQ0));have hv1:((w2.setCell ⟨w.heap.size,0,none⟩ (.slice fp' nf fc)).setCell ⟨w.heap.size,1,none⟩ (.slice ep' ne ec)).heap[w.heap.size+1]?=_:=(heap_setCell_other _ _ _ _ (by show w.heap.size+1≠w.heap.size; omega)).trans ((heap_setCell_other _ _ _ _ (by show w.heap.size+1≠w.heap.size; omega)).trans (Za HQ1));have hrv:Lv ((w2.setCell ⟨w.heap.size,0,none⟩ (.slice fp' nf fc)).setCell ⟨w.heap.size,1,none⟩ (.slice ep' ne ec)) (w.heap.size+1+1) s a:=(Za HRD).blk ((heap_setCell_other _ _ _ _ (by show w.heap.size+1+1≠w.heap.size; omega)).trans (heap_setCell_other _ _ _ _ (by show w.heap.size+1+1≠w.heap.size; omega)));have hbv:Below w.heap.size w ((w2.setCell ⟨w.heap.size,0,none⟩ (.slice fp' nf fc)).setCell ⟨w.heap.size,1,none⟩ (.slice ep' ne ec)):=Zy (Zy (Za HB2) (Nat.le_refl _) _) (Nat.le_refl _) _;have hzv:W.heap.size<=((w2.setCell ⟨w.heap.size,0,none⟩ (.slice fp' nf fc)).setCell ⟨w.heap.size,1,none⟩ (.slice ep' ne ec)).heap.size:=by simpa using hz2
   clear cp0 cp1 fp cq0 fq HQ0 HQ1 HRD HB2 cr HV;generalize (w2.setCell ⟨w.heap.size,0,none⟩ (.slice fp' nf fc)).setCell ⟨w.heap.size,1,none⟩ (.slice ep' ne ec)=V at hv0 hv1 hrv hbv hzv ⊢;refine(Zcr Ov (w.heap.size+1+1) s a V hrv).mono ?_;rintro e w3 ⟨hg3,g,rfl,hg,hgl⟩;have hq0:=Rh hv0 hg3 (by omega);have hq1:=Rh hv1 hg3 (by omega);have cp0:=(cR hq0 0);have cp1:=(cR hq0 1);have cq0:=(cR hq1 0);have HTH:=Zd (Kz w.heap.size (w.heap.size+1) g _ _ _ w3 cp0 cp1 (fun j=>frozen_of_row _ _ _ _ _ hq0) cq0 (frozen_of_row _ _ _ _ _ hq1) (by omega));have HF:=Zd (fun u v x=>Zja.err (w:=w) (Za HOE) (hbv.trans (⟨hg3.os,hg3.tape,hg3.output,hg3.size,fun q hq=>hg3.block q (by omega) (by intro e; injection e with e; omega)⟩:Below w.heap.size V w3)) hg (by omega) u v x);clear hg hv0 hv1 hrv hbv hg3 hq0 hq1;refine leaves_cons (f:=81) (args:=#[.pointer (some ⟨w.heap.size,0,none⟩),.pointer (some ⟨w.heap.size+1,0,none⟩)]) (by simp) (by simp [go_sem]) ?_;refine(Za HTH).mono ?_;rintro e u' w'' ⟨rfl,rfl,rfl⟩;simp [Leaves,settle,results,Tryz.results49,go_sem,Ou,cp0,cp1,cq0];exact Za HF _ _ _
  ·have hlt':¬ (a:Int)<s.size:=by omega
   have HOE:=Zd (show Ns s=.ok P by rw [Za HO,hd]; exact if_neg hlt);clear HO hd;go_wp2;have hx0:(((((w2.setCell ⟨w.heap.size,0,none⟩ (.slice fp' nf fc)).setCell ⟨w.heap.size,1,none⟩ (.slice ep' ne ec)).setCell ⟨w.heap.size,0,none⟩ (.slice fp' nf fc)).setCell ⟨w.heap.size,1,none⟩ (.slice ep' ne ec)).setCell ⟨w.heap.size+1,0,none⟩ .nilIface).heap[w.heap.size]?=some (.cells #[.slice fp' nf fc,.slice ep' ne ec] 62 (0,0)):=(heap_setCell_other _ _ _ _ (by show w.heap.size≠w.heap.size+1; omega)).trans (heap_setCell_same _ _ 1 _ _ (.slice ep' ne ec) (heap_setCell_same _ _ 0 _ _ (.slice fp' nf fc) (heap_setCell_same _ _ 1 _ _ (.slice ep' ne ec) (heap_setCell_same _ _ 0 _ _ (.slice fp' nf fc) (Za HQ0)))));have hx1:(((((w2.setCell ⟨w.heap.size,0,none⟩ (.slice fp' nf fc)).setCell ⟨w.heap.size,1,none⟩ (.slice ep' ne ec)).setCell ⟨w.heap.size,0,none⟩ (.slice fp' nf fc)).setCell ⟨w.heap.size,1,none⟩ (.slice ep' ne ec)).setCell ⟨w.heap.size+1,0,none⟩ .nilIface).heap[w.heap.size+1]?=some (.cells #[.nilIface] 93 (0,0)):=heap_setCell_same _ _ 0 _ _ .nilIface ((heap_setCell_other _ _ _ _ (by show w.heap.size+1≠w.heap.size; omega)).trans ((heap_setCell_other _ _ _ _ (by show w.heap.size+1≠w.heap.size; omega)).trans ((heap_setCell_other _ _ _ _ (by show w.heap.size+1≠w.heap.size; omega)).trans ((heap_setCell_other _ _ _ _ (by show w.heap.size+1≠w.heap.size; omega)).trans (Za HQ1)))));have hbv:Below w.heap.size w (((((w2.setCell ⟨w.heap.size,0,none⟩ (.slice fp' nf fc)).setCell ⟨w.heap.size,1,none⟩ (.slice ep' ne ec)).setCell ⟨w.heap.size,0,none⟩ (.slice fp' nf fc)).setCell ⟨w.heap.size,1,none⟩ (.slice ep' ne ec)).setCell ⟨w.heap.size+1,0,none⟩ .nilIface):=Zy (Zy (Zy (Zy (Zy (Za HB2) (Nat.le_refl _) _) (Nat.le_refl _) _) (Nat.le_refl _) _) (Nat.le_refl _) _) (show w.heap.size<=w.heap.size+1 by omega) _
   have hkv:Ja W.heap.size w2 (((((w2.setCell ⟨w.heap.size,0,none⟩ (.slice fp' nf fc)).setCell ⟨w.heap.size,1,none⟩ (.slice ep' ne ec)).setCell ⟨w.heap.size,0,none⟩ (.slice fp' nf fc)).setCell ⟨w.heap.size,1,none⟩ (.slice ep' ne ec)).setCell ⟨w.heap.size+1,0,none⟩ .nilIface):=Lb (Lb (Lb (Lb (Lb (fun _ _ _=>rfl) (by omega) _) (by omega) _) (by omega) _) (by omega) _) (by omega) _;clear cp0 cp1 fp cq0 fq HQ0 HQ1 HRD HB2 cr;generalize ((((w2.setCell ⟨w.heap.size,0,none⟩ (.slice fp' nf fc)).setCell ⟨w.heap.size,1,none⟩ (.slice ep' ne ec)).setCell ⟨w.heap.size,0,none⟩ (.slice fp' nf fc)).setCell ⟨w.heap.size,1,none⟩ (.slice ep' ne ec)).setCell ⟨w.heap.size+1,0,none⟩ .nilIface=V at hx0 hx1 hbv hkv ⊢;have cp0:=(cR hx0 0);have cp1:=(cR hx0 1);have cq0:=(cR hx1 0);refine leaves_cons (f:=81) (args:=#[.pointer (some ⟨w.heap.size,0,none⟩),.pointer (some ⟨w.heap.size+1,0,none⟩)]) (by simp) (by simp [go_sem]) ?_;refine(Ziz _ _ _).mono ?_;rintro e u' w'' ⟨rfl,rfl,rfl⟩;simp [Leaves,settle,results,Tryz.results49,go_sem,cp0,cp1,cq0];unfold Zja;rw [Za HOE];exact⟨hbv,_,rfl,(Za HV).keep (by omega) hkv⟩
theorem Zqi (s:ByteArray)(hs:s.size<=4000)(hon:OnD s)(w:World)(hN:Zp w)(h1:2<w.heap.size):Calls Tryz.prog 49 #[.string s] w (Zja s w) :=
 Zen s w hs hon hN h1
end Go.Proofs.YtkenknfgeoecbaaGreatDoor
