import Derived.Test.YtkenknfgeoecbaaGreatDoorInN
namespace Go.Proofs.YtkenknfgeoecbaaGreatDoor
open Go.RowKit
set_option maxHeartbeats 8000000
set_option maxRecDepth 100000
theorem Zln (w0 w:World)(fn:Zm)(ws outs:List Int)(pp qh qs qb wp op:Option Addr)(pc ch cs cb wc oc:Nat)(B:Nat→Value)(hD:Cg w0 fn (.slice pp fn.params.length pc) (.slice qh fn.homes.length ch) (.slice qs fn.slots.length cs) (.slice qb fn.blocks.length cb) B)(hbw0:Below w0.heap.size w0 w)(hW:LiU w (.slice wp ws.length wc) ws)(hOu:Li w0 (.slice op outs.length oc) outs)
 (hP:∀ k,k<fn.params.length→Zva (List.replicate fn.homes.length 0) (fn.slots.map fun n=>List.replicate (8*n).toNat 0) (fn.params.getD k (0,0))) (hns:∀ k,k<fn.slots.length→0≤fn.slots.getD k 0∧fn.slots.getD k 0≤8) (hnl:fn.slots.length≤6) (hpl:fn.params.length≤8) (hhl:fn.homes.length≤12) (hwl:ws.length=De fn.params) (hws:∀ n ∈ ws,0≤n∧n<18446744073709551616) :
 Calls Tryz.prog 126 #[.agg #[.slice pp fn.params.length pc,.int .i64 fn.results,.slice qh fn.homes.length ch,.slice qs fn.slots.length cs,.slice qb fn.blocks.length cb],.slice wp ws.length wc,.slice op outs.length oc] w fun e w'=>∃ q lo hi lg sp sc gs,e=.returned (.pointer (some ⟨q,0,none⟩))∧w.heap.size≤lo∧Uo w0 w' (Cn fn ws outs) q lo hi lg qb sp op cb sc oc gs B∧Below w.heap.size w w'∧IOk (Cn fn ws outs):=by
 obtain⟨r0,hb0,hz0⟩:=al0 w (.cells #[.slice pp fn.params.length pc,.int .i64 fn.results,.slice qh fn.homes.length ch,.slice qs fn.slots.length cs,.slice qb fn.blocks.length cb] 71 (0,0));have HD:=Za hD;have HOU:=Za hOu;have HP:=Za hP;have HNS:=Za hns;have HWL:=Za hwl;have HWS:=Za hws;have HLW:=Za (Lx hW hb0);have HMK:=fun V=>mkU fn.homes.length (by omega) V;have HB0:=Za hbw0;have HBW:=Za hb0;have HZ0:=Za hz0;have HS0:=Za r0;clear hD hOu hP hns hwl hws hW r0 hb0 hz0 hbw0;go_enter Tryz.func126,Tryz.ntmps126
 go_upto_region 1 with fail
 generalize World.alloc w _=W at HLW HBW HZ0 HS0 ⊢;have HS:=Za (show(fun V=>V.heap[w.heap.size]?=some (.cells #[.slice pp fn.params.length pc,.int .i64 fn.results,.slice qh fn.homes.length ch,.slice qs fn.slots.length cs,.slice qb fn.blocks.length cb] 71 (0,0))) W.drew from J HS0);refine wp_region_held_drew (S:=fun V=>V.heap[w.heap.size]?=some (.cells #[.slice pp fn.params.length pc,.int .i64 fn.results,.slice qh fn.homes.length ch,.slice qs fn.slots.length cs,.slice qb fn.blocks.length cb] 71 (0,0))) (by kernel_rfl) (J HS) (fun hHeld=>?_);refine wpAnyH_take (i:=0) (v:=?v0) rfl (by kernel_rfl) (by kernel_rfl) (by kernel_rfl) (fun _ _ _ h=>h) (Or.inl ⟨by rfl,?hy0⟩) (by assumption) ?_;case hy0 =>
  intro V hV;try dsimp only at hV
  clear hV;go_simp;all_goals (with_reducible rfl)
 simp only [Act.put,zA,zB,zC,zD,zE];refine wpAnyH_take (i:=1) (v:=?v1) rfl (by kernel_rfl) (by kernel_rfl) (by kernel_rfl) (fun _ _ _ h=>h) (Or.inl ⟨by rfl,?hy1⟩) (by assumption) ?_;case hy1 =>
  intro V hV;try dsimp only at hV
  have c:=cR hV 4;clear hV;go_simp;all_goals (with_reducible rfl)
 simp only [Act.put,zA,zB,zC,zD,zE,zF];refine wpAnyH_take (i:=2) (v:=?v2) rfl (by kernel_rfl) (by kernel_rfl) (by kernel_rfl) (fun _ _ _ h=>h) (Or.inl ⟨by rfl,?hy2⟩) (by assumption) ?_;case hy2 =>
  intro V hV;try dsimp only at hV
  clear hV;go_simp;all_goals (with_reducible rfl)
 simp only [Act.put,zA,zB,zC,zD,zE,zF];refine wpAnyH_take (i:=3) (v:=?v3) rfl (by kernel_rfl) (by kernel_rfl) (by kernel_rfl) (fun _ _ _ h=>h) (Or.inl ⟨by rfl,?hy3⟩) (by assumption) ?_;case hy3 =>
  intro V hV;try dsimp only at hV
  have c:=cR hV 2;clear hV;go_simp;all_goals (with_reducible rfl)
 simp only [Act.put,zA,zB,zC,zD,zE,zF];refine wpAnyH_take (i:=4) (v:=?v4) rfl (by kernel_rfl) (by kernel_rfl) (by kernel_rfl) (fun _ _ _ h=>h) (Or.inl ⟨by rfl,?hy4⟩) (by assumption) ?_;case hy4 =>
  intro V hV;try dsimp only at hV
  clear hV;go_simp;all_goals (with_reducible rfl)
 simp only [Act.put,zA,zB,zC,zD,zE,zF];refine wpAnyH_take (i:=6) (v:=?v6) rfl (by kernel_rfl) (by kernel_rfl) (by kernel_rfl) (fun _ _ _ h=>h) (Or.inl ⟨by rfl,?hy6⟩) (by assumption) ?_;case hy6 =>
  intro V hV;try dsimp only at hV
  clear hV;go_simp;all_goals (with_reducible rfl)
 simp only [Act.put,zA,zB,zC,zD,zE,zF];refine tO 5 fun K hK=>?_;go_simp;obtain⟨r1,b1,z1⟩:=al0 W (.cells (uC (List.replicate fn.homes.length 0)).toArray 90 (0,0));have hS1:(fun V=>V.heap[w.heap.size]?=some (.cells #[.slice pp fn.params.length pc,.int .i64 fn.results,.slice qh fn.homes.length ch,.slice qs fn.slots.length cs,.slice qb fn.blocks.length cb] 71 (0,0))) (W.alloc (.cells (uC (List.replicate fn.homes.length 0)).toArray 90 (0,0))).drew:=(b1.block _ (Zi (J HS))).trans (J HS);refine kO hK hS1 (fun hHeld2=>?_);clear hK K;refine wpAnyH_take (i:=7) (v:=?v7) rfl (by kernel_rfl) (by kernel_rfl) (by kernel_rfl) (fun _ _ _ h=>h) (Or.inl ⟨by rfl,?hy7⟩) (by assumption) ?_;case hy7 =>
  intro V hV;try dsimp only at hV
  clear hV;go_simp;all_goals (with_reducible rfl)
 simp only [Act.put,zA,zB,zC,zD,zE,zF];refine tO 8 fun K hK=>?_;go_simp;obtain⟨r2,b2,z2⟩:=al0 (W.alloc (.cells (uC (List.replicate fn.homes.length 0)).toArray 90 (0,0))) (.cells #[.slice qb fn.blocks.length cb,.int .i64 0,.int .i64 0,.slice (some ⟨W.heap.size,0,none⟩) fn.homes.length fn.homes.length,.slice none 0 0,.slice op outs.length oc] 328 (0,0));have hS2:(fun V=>V.heap[w.heap.size]?=some (.cells #[.slice pp fn.params.length pc,.int .i64 fn.results,.slice qh fn.homes.length ch,.slice qs fn.slots.length cs,.slice qb fn.blocks.length cb] 71 (0,0))) ((W.alloc (.cells (uC (List.replicate fn.homes.length 0)).toArray 90 (0,0))).alloc (.cells #[.slice qb fn.blocks.length cb,.int .i64 0,.int .i64 0,.slice (some ⟨W.heap.size,0,none⟩) fn.homes.length fn.homes.length,.slice none 0 0,.slice op outs.length oc] 328 (0,0))).drew:=(b2.block _ (Zi hS1)).trans hS1;refine kO hK hS2 (fun hHeld3=>?_);clear hK K;refine wpAnyH_take (i:=9) (v:=?v9) rfl (by kernel_rfl) (by kernel_rfl) (by kernel_rfl) (fun _ _ _ h=>h) (Or.inl ⟨by rfl,?hy9⟩) (by assumption) ?_;case hy9 =>
  intro V hV;try dsimp only at hV
  clear hV;go_simp;all_goals (with_reducible rfl)
 simp only [Act.put,zA,zB,zC,zD,zE,zF];refine wpAnyH_done (by kernel_rfl) ?_ _;clear hHeld hHeld2 hHeld3;rw [z1] at r2 z2;have hr1:=(b2.block _ (Zi r1)).trans r1;have hB3:Below W.heap.size W ((W.alloc (.cells (uC (List.replicate fn.homes.length 0)).toArray 90 (0,0))).alloc (.cells #[.slice qb fn.blocks.length cb,.int .i64 0,.int .i64 0,.slice (some ⟨W.heap.size,0,none⟩) fn.homes.length fn.homes.length,.slice none 0 0,.slice op outs.length oc] 328 (0,0))).drew:=(Zd b1 b2 (by omega)).drew;have HF:=Za (show Uo w0 ((W.alloc (.cells (uC (List.replicate fn.homes.length 0)).toArray 90 (0,0))).alloc (.cells #[.slice qb fn.blocks.length cb,.int .i64 0,.int .i64 0,.slice (some ⟨W.heap.size,0,none⟩) fn.homes.length fn.homes.length,.slice none 0 0,.slice op outs.length oc] 328 (0,0))).drew ⟨fn,0,0,List.replicate fn.homes.length 0,[],outs⟩ (W.heap.size+1) W.heap.size ((W.alloc (.cells (uC (List.replicate fn.homes.length 0)).toArray 90 (0,0))).alloc (.cells #[.slice qb fn.blocks.length cb,.int .i64 0,.int .i64 0,.slice (some ⟨W.heap.size,0,none⟩) fn.homes.length fn.homes.length,.slice none 0 0,.slice op outs.length oc] 328 (0,0))).drew.heap.size W.heap.size qb none op cb 0 oc [] B from
  ⟨by omega,by show _<((W.alloc (.cells (uC (List.replicate fn.homes.length 0)).toArray 90 (0,0))).alloc (.cells #[.slice qb fn.blocks.length cb,.int .i64 0,.int .i64 0,.slice (some ⟨W.heap.size,0,none⟩) fn.homes.length fn.homes.length,.slice none 0 0,.slice op outs.length oc] 328 (0,0))).heap.size; omega,by omega,by show _<((W.alloc (.cells (uC (List.replicate fn.homes.length 0)).toArray 90 (0,0))).alloc (.cells #[.slice qb fn.blocks.length cb,.int .i64 0,.int .i64 0,.slice (some ⟨W.heap.size,0,none⟩) fn.homes.length fn.homes.length,.slice none 0 0,.slice op outs.length oc] 328 (0,0))).heap.size; omega,by omega,Nat.le_refl _,by simp only [List.length_replicate,List.length_nil]; exact r2,hr1,World.ownsRow_nil _ _ _ _,fun g e=>(by cases e),rfl,fun k hk=>(by simp at hk),fun j k _ hk=>(by simp at hk),(J HD).bs,(J HD).each,J HOU⟩)
 have HB3:=Za hB3;have HS3:=Za hS2;clear r1 b1 z1 r2 b2 z2 hS1 hS2 hr1 hB3;generalize World.drew (World.alloc (World.alloc W _) _)=V3 at HF HB3 HS3 ⊢;have f3:=cR (J HS3) 3;have HB0W:=Za (Zd (J HB0) (J HBW) (J HB0).size);go_wp2_with fail
 clear f3;refine Yhd w0 W V3 ⟨fn,0,0,List.replicate fn.homes.length 0,[],outs⟩ (W.heap.size+1) W.heap.size W.heap.size qb op qs cb oc cs fn.slots B _ _ _ _ _ _ _ _ _ _ _ _ _ _ _ _ _ _ _ _ _ _ _ _ _ _ _ _ _ _ _ _ _ _ _ _ _ _ _ _ _ _ _ _ _ _ _ _ _ _ _ _ _ _ _ _ _ _ _ _ _ _ _ _ _ _ _ _ _ _ _ _ _ _ _ _ _ _ _ _ rfl rfl (J HB0W) (J HD).ss (J HNS) hnl (J HF) (J HB3) ?_;intro w1 sp sc gs hF1 hb1 u9 u24 u25 u26 u27 u28 u29 u30 u31 u32 u33 u34 u35 u36 u37 u38 u39 u40;rw [List.take_length] at hF1;have hzb:=J HZ0;have hs1:=(hb1.block w.heap.size (by omega)).trans (J HS0);have f0:=cR hs1 0;have HF1:=Za hF1;have HB1:=Za hb1;clear hF1 hb1 hs1 HF HB3 HS3 hzb;go_wp2_with fail
 clear f0;refine Yhe w0 W w1 ⟨fn,0,0,List.replicate fn.homes.length 0,[],outs⟩ (W.heap.size+1) W.heap.size w1.heap.size W.heap.size qb sp op pp wp cb sc oc pc wc gs B fn.params ws (List.replicate fn.homes.length 0) (fn.slots.map fun n=>List.replicate (8*n).toNat 0) _ _ _ _ _ _ _ _ _ _ _ _ _ _ _ _ _ _ _ _ _ _ _ _ _ _ _ _ _ _ _ _ _ _ _ _ _ _ _ _ _ _ _ _ _ _ _ _ _ _ _ _ _ _ _ _ _ _ _ _ _ _ _ _ _ _ _ _ _ _ _ _ _ _ _ _ _ _ _ (Nat.le_refl _) (J HB0W) (J HD).ps hpl (J HP) (J HLW) (J HWL) (J HWS) ?s1 (J HF1) (J HB1) ?s2 ?_;case s1 =>
  intro l hl;obtain⟨n,hn,rfl⟩:=List.mem_map.1 hl;obtain⟨i,hi,hi2⟩:=List.getElem_of_mem hn;have:=J HNS i hi;rw [Gm fn.slots 0 i hi,hi2] at this;simp
  omega
 case s2 =>
  refine⟨fun n hn=>?_,fun l hl n hn=>?_⟩
  ·rw [List.eq_of_mem_replicate hn]; omega
  ·obtain⟨k,-,rfl⟩:=List.mem_map.1 hl;rw [List.eq_of_mem_replicate hn]; omega
 intro w2 hF2 hO2 hok2 u1 u11 u44 u45 u46 u47 u48 u49 u50 u51 u52 u53 u54 u55 u56 u57 u58 u59 u60 u61 u62 u63 u64 u65 u66 u67 u68 u69 u70 u71 u72 u73 u74 u75 u76 u77 u78 u79 u80 u81;have hz:=J HZ0;have HF2:=Za hF2;have HOK2:=Za hok2;have HB2:=Za (show Below w.heap.size w w2 by have h1:=Zd (J HBW) (J HB1) (by omega);have h1z:=h1.size;have h2:=(J HB1).size;exact⟨hO2.os.trans h1.os,hO2.tape.trans h1.tape,hO2.output.trans h1.output,Nat.le_trans h1z hO2.size,fun q hq=>(hO2.oth q (by omega) (Or.inl (by omega))).trans (h1.block q hq)⟩)
 clear hF2 hO2 hok2 HF1 HB1 hz;go_wp2;go_ret;have hz9:w.heap.size≤W.heap.size:=by have:=J HZ0; omega
 first
  | exact⟨W.heap.size+1,W.heap.size,_,_,_,_,_,rfl,hz9,J HF2,J HB2,J HOK2⟩
  | exact⟨W.heap.size+1,rfl,W.heap.size,hz9,⟨_,_,_,_,_,J HF2⟩,J HB2,J HOK2⟩
structure Ly (P:Zj):Prop where
 cnt:Jr P=true
 head:∃(r:Int) (own:List Int),∀ k,k<P.funcs.length→Yv r own (P.funcs.getD k Zl)=true
 body:∀ k,k<P.funcs.length→Oh P (P.funcs.getD k Zl)=true
 word:∀ f ∈ P.funcs,∀ l ∈ f.blocks,∀ i ∈ l,(0≤i.n∧i.n<18446744073709551616)∧(i.op=3∨i.op=16)
def FnG (P:Zj)(f:Zm):Prop:=∃ k,k<P.funcs.length∧f=P.funcs.getD k Zl
structure FnH (f:Zm):Prop where
 pl:f.params.length≤8
 pw:∀ k,k<f.params.length→0≤(f.params.getD k (0,0)).1∧(f.params.getD k (0,0)).1≤8∧Rv f (f.params.getD k (0,0))=true
 r0:0≤f.results
 r1:f.results≤4
 hl:f.homes.length≤12
 sl:f.slots.length≤6
 sw:∀ k,k<f.slots.length→1≤f.slots.getD k 0∧f.slots.getD k 0≤8
 b1:1≤f.blocks.length
 b12:f.blocks.length≤12
 bk:∀ k,k<f.blocks.length→1≤(f.blocks.getD k []).length∧(f.blocks.getD k []).length≤24
theorem Rc {n lo hi:Int}(h:Gq n lo hi=true):lo≤n∧n≤hi:=of_decide_eq_true h
theorem Oe {α β:Type}(l:List α)(f:α→β)(a:α)(b:β)(k:Nat)(h:k<l.length):(l.map f).getD k b=f (l.getD k a):=by simp [List.getD,h]
theorem Ydm {r:Int}{own:List Int}{f:Zm}(h:Yv r own f=true):FnH f:=by
 unfold Yv Nl Ll at h;simp only [Bool.and_eq_true,decide_eq_true_eq] at h;obtain⟨h1,⟨-,h2,h3⟩,h4,-,h5,h6,h7,h8,h9⟩:=h;have h2:=Rc h2;have h7:=Rc h7;refine⟨h1,fun k hk=>?_,h2.1,h2.2,h4,h5,fun k hk=>Rc (Ga h6 hk),by omega,by omega,fun k hk=>?_⟩
 ·have a:=Rc (Ga h3 (k:=k) (by simpa using hk));rw [Oe f.params (·.1) (0,0) 0 k hk] at a;have b:=Ga h9 hk;unfold Kt at b;simp only [Bool.and_eq_true] at b;exact⟨a.1,a.2,b.1⟩
 ·have a:=Rc (Ga h8 hk);omega
theorem Ly.fnH {P:Zj}(h:Ly P){f:Zm}(hf:FnG P f):FnH f:=by obtain⟨k,hk,rfl⟩:=hf;obtain⟨r,own,hh⟩:=h.head;exact Ydm (hh k hk)
structure Yfw (P:Zj)(f:Zm)(i:Yj)(last:Bool):Prop where
 op0:1≤i.op
 op1:i.op≤18
 lst:decide (14≤i.op)=last
 fld:Xr P f i=true
 n0:0≤i.n
 n1:i.n<18446744073709551616
 on:i.op=3∨i.op=16
theorem Ly.insG {P:Zj}(h:Ly P){f:Zm}(hf:FnG P f){b i:Nat}(hb:b<f.blocks.length)(hi:i<(f.blocks.getD b []).length):Yfw P f ((f.blocks.getD b []).getD i Lj) (decide (i+1=(f.blocks.getD b []).length)):=by obtain⟨k,hk,rfl⟩:=hf;have hq:=Ga (Ga (h.body k hk) hb) hi;unfold Zko Zbd at hq;simp only [Bool.and_eq_true,beq_iff_eq] at hq;obtain⟨h1,h2,-,h4⟩:=hq;have h1:=Rc h1;have hw:=h.word (P.funcs.getD k Zl) (by rw [Gm _ _ _ hk]; exact List.getElem_mem _) ((P.funcs.getD k Zl).blocks.getD b []) (by rw [Gm _ _ _ hb]; exact List.getElem_mem _) (((P.funcs.getD k Zl).blocks.getD b []).getD i Lj) (by rw [Gm _ _ _ hi]; exact List.getElem_mem _);exact⟨h1.1,h1.2,h2,h4,hw.1.1,hw.1.2,hw.2⟩
section
variable {P:Zj} {f:Zm} {i:Yj}
theorem Yfx (h:Xr P f i=true)(ho:i.op≤11∨i.op=15):0≤i.d∧i.d<f.homes.length:=by
 unfold Xr at h;repeat' split at h
 all_goals try (exfalso; omega)
 all_goals (simp only [Bool.and_eq_true,Jt,Gq,decide_eq_true_eq] at h; omega)
theorem Yfy (h:Xr P f i=true)(ho:2≤i.op∧i.op≤9):0≤i.a∧i.a<f.homes.length:=by
 unfold Xr at h;repeat' split at h
 all_goals try (exfalso; omega)
 all_goals (simp only [Bool.and_eq_true,Jt,Gq,decide_eq_true_eq] at h; omega)
theorem Yfz (h:Xr P f i=true)(ho:3≤i.op∧i.op≤9):0≤i.bb∧i.bb<f.homes.length:=by
 unfold Xr at h;repeat' split at h
 all_goals try (exfalso; omega)
 all_goals (simp only [Bool.and_eq_true,Jt,Gq,decide_eq_true_eq] at h; omega)
theorem Zoj (h:Xr P f i=true)(ho:i.op=16):(i.outs.length:Int)=f.results∧My f i.outs=true:=by unfold Xr at h;simp only [ho] at h;simpa using h
theorem Zlo {l:List Int}(h:My f l=true):∀ k,k<l.length→0≤l.getD k 0∧l.getD k 0<f.homes.length:=fun k hk=>by
 have:=Rc (Ga h hk);omega
end
structure Ru (P:Zj)(x:Ms):Prop where
 fn:FnG P x.fn
 b0:0≤x.b
 b1:x.b<x.fn.blocks.length
 i0:0≤x.i
 i1:x.i<(x.fn.blocks.getD x.b.toNat []).length
 v:x.v.length=x.fn.homes.length
 s:x.s.map List.length=x.fn.slots.map fun n=>(8*n).toNat
 ok:IOk x
section
variable {P:Zj} {x:Ms}
theorem Ru.slen (h:Ru P x):x.s.length=x.fn.slots.length:=by have:=congrArg List.length h.s;simpa using this
theorem Ru.slot (h:Ru P x){k:Nat}(hk:k<x.s.length):(x.s.getD k []).length=(8*x.fn.slots.getD k 0).toNat:=by
 have e:(x.s.map List.length).getD k 0=(x.fn.slots.map fun n=>(8*n).toNat).getD k 0:=by rw [h.s]
 rw [Oe x.s List.length [] 0 k hk,Oe x.fn.slots (fun n=>(8*n).toNat) 0 0 k (by rw [← h.slen]; exact hk)] at e;exact e
theorem Ru.small (h:Ru P x)(hG:Ly P):∀ l ∈ x.s,l.length≤65536:=fun l hl=>by
 obtain⟨k,hk,rfl⟩:=List.getElem_of_mem hl;have e:=h.slot hk;have:=(hG.fnH h.fn).sw k (by rw [← h.slen]; exact hk);rw [Gm x.s [] k hk] at e;omega
theorem Ru.insG (h:Ru P x)(hG:Ly P):Yfw P x.fn (Yf x) (decide (x.i.toNat+1=(x.fn.blocks.getD x.b.toNat []).length)):=by have h1:=h.b0;have h2:=h.b1;have h3:=h.i0;have h4:=h.i1;exact hG.insG h.fn (by omega) (by omega)
theorem Ru.next (h:Ru P x)(hG:Ly P)(ho:(Yf x).op<14):Ru P (Xu x):=by have hi:=(h.insG hG).lst;have h3:=h.i0;have h4:=h.i1;rw [decide_eq_false (by omega)] at hi;have hi:=of_decide_eq_false hi.symm;exact⟨h.fn,h.b0,h.b1,by show 0≤x.i+1; omega,by show x.i+1<_; unfold Xu; simp only; omega,h.v,h.s,⟨h.ok.v,h.ok.s⟩⟩
theorem Ru.at_ (h:Ru P x)(hG:Ly P){t:Int}(h0:0≤t)(h1:t<x.fn.blocks.length):Ru P { x with b:=t,i:=0 }:=by have:=(hG.fnH h.fn).bk t.toNat (by omega);exact⟨h.fn,h0,h1,Int.le_refl 0,by show(0:Int)<(x.fn.blocks.getD t.toNat []).length; omega,h.v,h.s,⟨h.ok.v,h.ok.s⟩⟩
theorem Zcz {l:List Int}{k:Nat}{n m:Int}(h:m ∈ l.set k n):m ∈ l∨m=n:=by
 rcases List.mem_or_eq_of_mem_set h with h | h
 ·exact Or.inl h
 ·exact Or.inr h
theorem Ru.setV (h:Ru P x)(k:Nat){n:Int}(h0:0≤n)(h1:n<18446744073709551616):Ru P { x with v:=x.v.set k n } :=
 ⟨h.fn,h.b0,h.b1,h.i0,h.i1,by simp [h.v],h.s,⟨fun m hm=>by
  rcases Zcz hm with hm | rfl
  ·exact h.ok.v m hm
  ·exact⟨h0,h1⟩,h.ok.s⟩⟩
theorem Zok {l:List Int}(h:∀ n ∈ l,0≤n∧n<18446744073709551616)(k:Nat):0≤l.getD k 0∧l.getD k 0<18446744073709551616:=by
 by_cases hk:k<l.length
 ·exact h _ (Zcw hk 0)
 ·simp [List.getD,hk]
theorem Ru.bytes (h:Ru P x)(k:Nat):∀ n ∈ x.s.getD k [],0≤n∧n<256:=by
 by_cases hk:k<x.s.length
 ·rw [Gm _ _ _ hk]; exact h.ok.s _ (List.getElem_mem _)
 ·intro n hn; simp [List.getD,hk] at hn
theorem Zzg {v ds vs:List Int}(hv:∀ n ∈ v,0≤n∧n<18446744073709551616)(hw:∀ n ∈ vs,0≤n∧n<18446744073709551616):∀ n ∈ Nt v ds vs,0≤n∧n<18446744073709551616:=by
 unfold Nt;induction ds generalizing v vs with
 | nil=>simpa using hv
 | cons d ds ih =>
  cases vs with
  | nil=>simpa using hv
  | cons a vs =>
   simp only [List.zip_cons_cons,List.foldl_cons];refine ih (fun n hn=>?_) (fun n hn=>hw n (List.mem_cons_of_mem _ hn));rcases Zcz hn with hn | rfl
   ·exact hv n hn
   ·exact hw _ List.mem_cons_self
theorem Ru.setVs (h:Ru P x)(ds:List Int){vs:List Int}(hw:∀ n ∈ vs,0≤n∧n<18446744073709551616):Ru P { x with v:=Nt x.v ds vs } :=
 ⟨h.fn,h.b0,h.b1,h.i0,h.i1,by simp [Zip,h.v],h.s,⟨Zzg h.ok.v hw,h.ok.s⟩⟩
theorem Zvc (n:Int):0≤IntKind.u64.wrap n∧IntKind.u64.wrap n<18446744073709551616:=by
 have:IntKind.u64.wrap n=n % 18446744073709551616:=by simp [IntKind.wrap,IntKind.bits,IntKind.signed]
 omega
theorem Zzh (op a b:Int):0≤Zac op a b∧Zac op a b<18446744073709551616:=by
 unfold Zac;repeat' split
 all_goals first | exact Zvc _ | omega
theorem Ru.loc (h:Ru P x)(hG:Ly P)(h16:(Yf x).op<16):Ru P (Zem (Xu x) (Yf x)):=by
 have g:=h.insG hG;have hv:=h.ok.v;generalize hi:Yf x=i at g h16 ⊢;have ho:i.op=3:=by rcases g.on with h | h <;> omega
 have hn:=h.next hG (by rw [hi]; omega);unfold Zem;repeat' split
 all_goals try (exfalso; omega)
 have:=Zzh i.op (x.v.getD i.a.toNat 0) (x.v.getD i.bb.toNat 0);exact hn.setV _ this.1 this.2
theorem Zvd (hok:IOk x)(l:List Int):∀ n ∈ Jm x.v l,0≤n∧n<18446744073709551616:=fun n hn=>by
 obtain⟨k,-,rfl⟩:=List.mem_map.1 hn;exact Zok hok.v _
theorem Zzi {f:Zm}(hv:x.v.length=f.homes.length)(hs:x.s.map List.length=f.slots.map fun n=>(8*n).toNat){a:Int×Int}(h:Rv f a=true)(h0:0≤a.1)(h8:a.1≤8):Yfv x a:=by
 unfold Rv at h;have hsl:x.s.length=f.slots.length:=by have:=congrArg List.length hs; simpa using this
 split at h
 ·rename_i hz;have:=Rc h;exact⟨h0,h8,by omega,fun _=>by omega,fun hn=>absurd hz hn⟩
 ·rename_i hz;simp only [Bool.and_eq_true,decide_eq_true_eq] at h;have h1:=Rc h.1;have h2:=h.2;refine⟨h0,h8,h1.1,fun hn=>absurd hn hz,fun _=>⟨by omega,?_⟩⟩;have hk:a.2.toNat<x.s.length:=by omega
  have e:(x.s.map List.length).getD a.2.toNat 0=(f.slots.map fun n=>(8*n).toNat).getD a.2.toNat 0:=by rw [hs]
  rw [Oe x.s List.length [] 0 _ hk,Oe f.slots (fun n=>(8*n).toNat) 0 0 _ (by omega),h2] at e;omega
theorem Ydn {f:Zm}(hH:FnH f):(∀ k,k<(Ll f).1.length→0≤(Ll f).1.getD k 0∧(Ll f).1.getD k 0≤8)∧(Ll f).1.length≤8:=by
 unfold Ll;refine⟨fun k hk=>?_,by simpa using hH.pl⟩;have hk':k<f.params.length:=by simpa using hk
 simp only;rw [Oe f.params (·.1) (0,0) 0 k hk'];exact⟨(hH.pw k hk').1,(hH.pw k hk').2.1⟩
theorem Zda:∀(l:List (Int×Int)) (v:List Int) (s:List (List Int)) (ws:List Int),(Sm l v s ws).1.length=v.length∧(Sm l v s ws).2.map List.length=s.map List.length
 | [],v,s,ws=>⟨rfl,rfl⟩
 | p :: r,v,s,ws=>by
  unfold Sm;split
  ·have:=Zda r (v.set p.2.toNat (ws.getD 0 0)) s (ws.drop 1);simpa using this
  ·have:=Zda r v (s.set p.2.toNat (Zaz (s.getD p.2.toNat []) (ws.take p.1.toNat))) (ws.drop p.1.toNat);exact⟨this.1,this.2.trans (Zgk _ _ _ (Zab _ _))⟩
theorem Zgm:∀(l:List (Int×Int)) (v:List Int) (s:List (List Int)) (ws:List Int),(∀ n ∈ v,0≤n∧n<18446744073709551616)→(∀ l ∈ s,∀ n ∈ l,0≤n∧n<256)→(∀ n ∈ ws,0≤n∧n<18446744073709551616)→(∀ n ∈ (Sm l v s ws).1,0≤n∧n<18446744073709551616)∧∀ z ∈ (Sm l v s ws).2,∀ n ∈ z,0≤n∧n<256
 | [],v,s,ws,hv,hs,_=>⟨hv,hs⟩
 | p :: r,v,s,ws,hv,hs,hw=>by
  unfold Sm;split
  ·refine Zgm r _ s _ (fun n hn=>?_) hs (fun n hn=>hw n (List.mem_of_mem_drop hn));rcases Zcz hn with hn | rfl
   ·exact hv n hn
   ·exact Zok hw 0
  ·refine Zgm r v _ _ hv (fun l hl=>?_) (fun n hn=>hw n (List.mem_of_mem_drop hn));rcases List.mem_or_eq_of_mem_set hl with hl | rfl
   ·exact hs l hl
   ·refine Ziu ?_ _;by_cases hk:p.2.toNat<s.length
    ·rw [Gm _ _ _ hk]; exact hs _ (List.getElem_mem _)
    ·intro n hn; simp [List.getD,hk] at hn
theorem Ydo (hG:Ly P){f:Zm}(hf:FnG P f){ws:List Int}(hw:∀ n ∈ ws,0≤n∧n<18446744073709551616)(o:List Int):Ru P (Cn f ws o):=by
 have hH:=hG.fnH hf;have h1:=hH.b1;have h2:=hH.bk 0 (by omega);have hl:=Zda f.params (List.replicate f.homes.length 0) (f.slots.map fun n=>List.replicate (8*n).toNat 0) ws;have hb:=Zgm f.params (List.replicate f.homes.length 0) (f.slots.map fun n=>List.replicate (8*n).toNat 0) ws (fun n hn=>by rw [List.eq_of_mem_replicate hn]; omega) (fun l hl n hn=>by
  obtain⟨k,-,rfl⟩:=List.mem_map.1 hl;rw [List.eq_of_mem_replicate hn]; omega) hw
 exact⟨hf,Int.le_refl 0,by show(0:Int)<f.blocks.length; omega,Int.le_refl 0,by show(0:Int)<(f.blocks.getD 0 []).length; omega,by show(Sm _ _ _ _).1.length=f.homes.length; rw [hl.1]; simp,by show(Sm _ _ _ _).2.map List.length=f.slots.map _; rw [hl.2]; simp [List.map_map,Function.comp_def],⟨hb.1,hb.2⟩⟩
theorem Ydp {f:Zm}(hH:FnH f):∀ k,k<f.params.length→Zva (List.replicate f.homes.length 0) (f.slots.map fun n=>List.replicate (8*n).toNat 0) (f.params.getD k (0,0)):=fun k hk=>by
 obtain⟨h0,h8,hs⟩:=hH.pw k hk;have:=Zzi (x:=⟨f,0,0,List.replicate f.homes.length 0,f.slots.map fun n=>List.replicate (8*n).toNat 0,[]⟩) (by simp) (by simp) hs h0 h8;exact⟨h0,h8,this.f0,this.v,this.s⟩
end
def Ii:Type:=(List Ms×List Int×List (Int×List Int)) ⊕ ((List Int×List Int×List (Int×List Int)) ⊕ (Int×List Int×List (Int×List Int)))
abbrev Ii.go (st:List Ms)(sc:List Int)(tr:List (Int×List Int)):Ii:=.inl (st,sc,tr)
abbrev Ii.done (l:List Int)(sc:List Int)(tr:List (Int×List Int)):Ii:=.inr (.inl (l,sc,tr))
abbrev Ii.trap (c:Int)(sc:List Int)(tr:List (Int×List Int)):Ii:=.inr (.inr (c,sc,tr))
theorem Ii.el {motive:Ii→Prop}(r:Ii)(go:∀ st sc tr,motive (.go st sc tr))(done:∀ l sc tr,motive (.done l sc tr))(trap:∀ c sc tr,motive (.trap c sc tr)):motive r :=
 match r with
 | .inl (st,sc,tr)=>go st sc tr
 | .inr (.inl (l,sc,tr))=>done l sc tr
 | .inr (.inr (c,sc,tr))=>trap c sc tr
theorem Ii.go_inj {a a':List Ms}{b b':List Int}{c c':List (Int×List Int)}(h:Ii.go a b c=Ii.go a' b' c'):a=a'∧b=b'∧c=c':=by injection h with h;injection h with h1 h;injection h with h2 h3;exact⟨h1,h2,h3⟩
def stp (P:Zj)(x:Ms)(R:List Ms)(sc:List Int)(tr:List (Int×List Int)):Ii :=
 if (Yf x).op=12 then .go (Zgl P (Xu x) (Yf x) (Yf x).outs :: Xu x :: R) sc tr
 else if (Yf x).op=13 then .go ({ Xu x with v:=Nt x.v (Yf x).outs (Ybm sc (Yf x).outs.length) } :: R) (sc.drop (Yf x).outs.length) (tr++[((Yf x).f,Zvb x (Yf x).args)])
 else if (Yf x).op=16 then
  match R with
  | []=>.done (Jm x.v (Yf x).outs) sc tr
  | c :: R'=>.go ({ c with v:=Nt c.v x.o (Jm x.v (Yf x).outs) } :: R') sc tr
 else if (Yf x).op=17 then .go (Zgl P (Xu x) (Yf x) x.o :: R) sc tr
 else if (Yf x).op=18 then .trap (Yf x).n sc tr
 else .go (Zem (Xu x) (Yf x) :: R) sc tr
def Ii.run (P:Zj)(n:Nat):Ii→Rb
 | .inl (st,sc,tr)=>ev P n st sc tr
 | .inr (.inl (l,sc,tr))=>.done l n sc tr
 | .inr (.inr (c,sc,tr))=>.trap c n sc tr
theorem Ydq (P:Zj)(n:Nat)(x:Ms)(R:List Ms)(sc:List Int)(tr:List (Int×List Int)):ev P (n+1) (x :: R) sc tr=(stp P x R sc tr).run P n:=by
 conv=>lhs; unfold ev
 unfold stp;by_cases h12:(Yf x).op=12
 ·rw [if_pos h12,if_pos h12]; rfl
 rw [if_neg h12,if_neg h12];by_cases h13:(Yf x).op=13
 ·rw [if_pos h13,if_pos h13]; rfl
 rw [if_neg h13,if_neg h13];by_cases h16:(Yf x).op=16
 ·rw [if_pos h16,if_pos h16];cases R <;> rfl
 rw [if_neg h16,if_neg h16];by_cases h17:(Yf x).op=17
 ·rw [if_pos h17,if_pos h17]; rfl
 rw [if_neg h17,if_neg h17];by_cases h18:(Yf x).op=18
 ·rw [if_pos h18,if_pos h18]; rfl
 rw [if_neg h18,if_neg h18];rfl
def WfS (P:Zj):List Ms→Prop
 | []=>False
 | [x]=>Ru P x∧x.o=[]
 | x :: c :: R=>Ru P x∧(x.o.length:Int)=x.fn.results∧(∀ k,k<x.o.length→0≤x.o.getD k 0∧x.o.getD k 0<c.v.length)∧WfS P (c :: R)
section
variable {P:Zj} {x y:Ms} {R:List Ms}
theorem WfS.top (h:WfS P (x :: R)):Ru P x:=by
 cases R with
 | nil=>exact h.1
 | cons c R=>exact h.1
theorem WfS.swap (h:WfS P (x :: R))(hy:Ru P y)(ho:y.o=x.o)(hr:y.fn.results=x.fn.results):WfS P (y :: R):=by
 cases R with
 | nil=>exact⟨hy,ho.trans h.2⟩
 | cons c R=>exact⟨hy,by rw [ho,hr]; exact h.2.1,by rw [ho]; exact h.2.2.1,h.2.2.2⟩
theorem Zzj (y:Ms)(i:Yj):(Zem y i).fn=y.fn:=by
 unfold Zem;repeat' split
 all_goals rfl
theorem Zve (hG:Ly P)(h:Ru P x)(h16:(Yf x).op=16):((Yf x).outs.length:Int)=x.fn.results∧(Yf x).outs.length≤4∧∀ k,k<(Yf x).outs.length→0≤(Yf x).outs.getD k 0∧(Yf x).outs.getD k 0<x.v.length:=by obtain⟨h1,h2⟩:=Zoj (h.insG hG).fld h16;have:=(hG.fnH h.fn).r1;exact⟨h1,by omega,by rw [h.v]; exact Zlo h2⟩
theorem Ydr (hG:Ly P)(h:WfS P (x :: R)){sc:List Int}(hsc:∀ n ∈ sc,0≤n∧n<18446744073709551616)(tr:List (Int×List Int)):∀{st sc' tr'},stp P x R sc tr=.go st sc' tr'→WfS P st∧∀ n ∈ sc',0≤n∧n<18446744073709551616:=by
 intro st sc' tr' he;have hx:=h.top;have hon:=(hx.insG hG).on;unfold stp at he;have h12:¬ (Yf x).op=12:=by omega
 rw [if_neg h12] at he;have h13:¬ (Yf x).op=13:=by omega
 rw [if_neg h13] at he;by_cases h16:(Yf x).op=16
 ·rw [if_pos h16] at he;cases R with
  | nil=>cases he
  | cons c R'=>obtain⟨e1,e2,e3⟩:=Ii.go_inj he;subst e1 e2;exact⟨h.2.2.2.swap (h.2.2.2.top.setVs _ (Zvd hx.ok _)) rfl rfl,hsc⟩
 rw [if_neg h16] at he;have h17:¬ (Yf x).op=17:=by omega
 rw [if_neg h17] at he;have h18:¬ (Yf x).op=18:=by omega
 rw [if_neg h18] at he;obtain⟨e1,e2,e3⟩:=Ii.go_inj he;subst e1 e2;have:=(hx.insG hG).op1;exact⟨h.swap (hx.loc hG (by omega)) (Ydl _ _) (by rw [Zzj]; rfl),hsc⟩
end
theorem Zzf {g j:Nat}{w U:World}{v:Value}(h:Below w.heap.size w U)(hz:U.heap.size=w.heap.size):One g w (U.setCell ⟨g,j,none⟩ v):=⟨h.os,h.tape,h.output,by simpa using hz,fun q hq=>(heap_setCell_other _ _ _ _ hq).trans (by
 by_cases hl:q<w.heap.size
 ·exact h.block q hl
 ·rw [Array.getElem?_eq_none (by omega),Array.getElem?_eq_none (by omega)])⟩
end Go.Proofs.YtkenknfgeoecbaaGreatDoor
