import Derived.Test.YteddfaconabobaaGreatDoorPk
import Derived.Test.YteddfaconabobaaGreatDoorJ23
namespace Go.Proofs.YteddfaconabobaaGreatDoor
open Go.RowKit
set_option maxHeartbeats 8000000 in
set_option maxRecDepth 100000 in
theorem Zdx (w0 w:World)(fn:Zn)(ws outs:List Int)(pp qh qs qb wp op:Option Addr)(pc ch cs cb wc oc:Nat)(B:Nat→Value)(hD:Nh w0 fn (.slice pp fn.params.length pc) (.slice qh fn.homes.length ch) (.slice qs fn.slots.length cs) (.slice qb fn.blocks.length cb) B)(hbw0:Below w0.heap.size w0 w)(hW:Lv w (.slice wp ws.length wc) ws)(hOu:Li w0 (.slice op outs.length oc) outs)
 (hP:∀ k,k<fn.params.length→Ziv (List.replicate fn.homes.length 0) (fn.slots.map fun n=>List.replicate (8*n).toNat 0) (fn.params.getD k (0,0))) (hns:∀ k,k<fn.slots.length→0≤fn.slots.getD k 0∧fn.slots.getD k 0≤8) (hnl:fn.slots.length≤6) (hpl:fn.params.length≤8) (hhl:fn.homes.length≤12) (hwl:ws.length=Xe fn.params) (hws:∀ n ∈ ws,0≤n∧n<18446744073709551616) :
 Calls Tryz.prog 64 #[.agg #[.slice pp fn.params.length pc,.int .i64 fn.results,.slice qh fn.homes.length ch,.slice qs fn.slots.length cs,.slice qb fn.blocks.length cb],.slice wp ws.length wc,.slice op outs.length oc] w fun e w'=>∃ q lo hi lg sp sc gs,e=.returned (.pointer (some ⟨q,0,none⟩))∧w.heap.size≤lo∧Gn w0 w' (Jj fn ws outs) q lo hi lg qb sp op cb sc oc gs B∧Below w.heap.size w w'∧IOk (Jj fn ws outs):=by
 obtain⟨r0,hb0,hz0⟩:=Yj w (.cells #[.slice pp fn.params.length pc,.int .i64 fn.results,.slice qh fn.homes.length ch,.slice qs fn.slots.length cs,.slice qb fn.blocks.length cb] 60 (0,0));have HD:=J hD;have HOU:=J hOu;have HP:=J hP;have HNS:=J hns;have HWL:=J hwl;have HWS:=J hws;have HLW:=J (Yx hW hb0);have HMK:=fun V=>mkU fn.homes.length (by omega) V;have HB0:=J hbw0;have HBW:=J hb0;have HZ0:=J hz0;have HS0:=J r0;clear hD hOu hP hns hwl hws hW r0 hb0 hz0 hbw0;go_enter Tryz.func64,Tryz.ntmps64
 go_upto_region 1 with fail
 generalize World.alloc w _=W at HLW HBW HZ0 HS0 ⊢;have HS:=J (show(fun V=>V.heap[w.heap.size]?=some (.cells #[.slice pp fn.params.length pc,.int .i64 fn.results,.slice qh fn.homes.length ch,.slice qs fn.slots.length cs,.slice qb fn.blocks.length cb] 60 (0,0))) W.drew from G HS0);refine wp_region_held_drew (S:=fun V=>V.heap[w.heap.size]?=some (.cells #[.slice pp fn.params.length pc,.int .i64 fn.results,.slice qh fn.homes.length ch,.slice qs fn.slots.length cs,.slice qb fn.blocks.length cb] 60 (0,0))) (by kernel_rfl) (G HS) (fun hHeld=>?_);refine wpAnyH_take (i:=0) (v:=?v0) rfl (by kernel_rfl) (by kernel_rfl) (by kernel_rfl) (fun _ _ _ h=>h) (Or.inl ⟨by rfl,?hy0⟩) (by assumption) ?_;case hy0 =>
  intro V hV;try dsimp only at hV
  clear hV;go_simp;all_goals (with_reducible rfl)
 simp only [Act.put,zA,zB,zC,zD,zE];refine wpAnyH_take (i:=1) (v:=?v1) rfl (by kernel_rfl) (by kernel_rfl) (by kernel_rfl) (fun _ _ _ h=>h) (Or.inl ⟨by rfl,?hy1⟩) (by assumption) ?_;case hy1 =>
  intro V hV;try dsimp only at hV
  have c:=cR hV 4;clear hV;go_simp;all_goals (with_reducible rfl)
 simp only [Act.put,zA,zB,zC,zD,zE,zF];refine wpAnyH_take (i:=2) (v:=?v2) rfl (by kernel_rfl) (by kernel_rfl) (by kernel_rfl) (fun _ _ _ h=>h) (Or.inl ⟨by rfl,?hy2⟩) (by assumption) ?_;case hy2 =>
  intro V hV;try dsimp only at hV
  clear hV;go_simp;all_goals (with_reducible rfl)
 simp only [Act.put,zA,zB,zC,zD,zE,zF];refine wpAnyH_take (i:=3) (v:=?v3) rfl (by kernel_rfl) (by kernel_rfl) (by kernel_rfl) (fun _ _ _ h=>h) (Or.inl ⟨by rfl,?hy3⟩) (by assumption) ?_;case hy3 =>
  intro V hV;try dsimp only at hV
  have c:=cR hV 2;clear hV;go_simp;all_goals (with_reducible rfl)
 simp only [Act.put,zA,zB,zC,zD,zE,zF];refine wpAnyH_take (i:=4) (v:=?v4) rfl (by kernel_rfl) (by kernel_rfl) (by kernel_rfl) (fun _ _ _ h=>h) (Or.inl ⟨by rfl,?hy4⟩) (by assumption) ?_;case hy4 =>
  intro V hV;try dsimp only at hV
  clear hV;go_simp;all_goals (with_reducible rfl)
 simp only [Act.put,zA,zB,zC,zD,zE,zF];refine wpAnyH_take (i:=6) (v:=?v6) rfl (by kernel_rfl) (by kernel_rfl) (by kernel_rfl) (fun _ _ _ h=>h) (Or.inl ⟨by rfl,?hy6⟩) (by assumption) ?_;case hy6 =>
  intro V hV;try dsimp only at hV
  clear hV;go_simp;all_goals (with_reducible rfl)
 simp only [Act.put,zA,zB,zC,zD,zE,zF];refine tO 5 fun K hK=>?_;go_simp;obtain⟨r1,b1,z1⟩:=Yj W (.cells (uC (List.replicate fn.homes.length 0)).toArray 62 (0,0));have hS1:(fun V=>V.heap[w.heap.size]?=some (.cells #[.slice pp fn.params.length pc,.int .i64 fn.results,.slice qh fn.homes.length ch,.slice qs fn.slots.length cs,.slice qb fn.blocks.length cb] 60 (0,0))) (W.alloc (.cells (uC (List.replicate fn.homes.length 0)).toArray 62 (0,0))).drew:=(b1.block _ (Zd (G HS))).trans (G HS);refine hK.out _ _ hS1 (fun hHeld2=>?_);clear hK K;try simp only [Act.put,zA,zB,zC,zD,zE,zF]
 refine wpAnyH_take (i:=7) (v:=?v7) rfl (by kernel_rfl) (by kernel_rfl) (by kernel_rfl) (fun _ _ _ h=>h) (Or.inl ⟨by rfl,?hy7⟩) (by assumption) ?_;case hy7 =>
  intro V hV;try dsimp only at hV
  clear hV;go_simp;all_goals (with_reducible rfl)
 simp only [Act.put,zA,zB,zC,zD,zE,zF];refine tO 8 fun K hK=>?_;go_simp;obtain⟨r2,b2,z2⟩:=Yj (W.alloc (.cells (uC (List.replicate fn.homes.length 0)).toArray 62 (0,0))) (.cells #[.slice qb fn.blocks.length cb,.int .i64 0,.int .i64 0,.slice (some ⟨W.heap.size,0,none⟩) fn.homes.length fn.homes.length,.slice none 0 0,.slice op outs.length oc] 177 (0,0));have hS2:(fun V=>V.heap[w.heap.size]?=some (.cells #[.slice pp fn.params.length pc,.int .i64 fn.results,.slice qh fn.homes.length ch,.slice qs fn.slots.length cs,.slice qb fn.blocks.length cb] 60 (0,0))) ((W.alloc (.cells (uC (List.replicate fn.homes.length 0)).toArray 62 (0,0))).alloc (.cells #[.slice qb fn.blocks.length cb,.int .i64 0,.int .i64 0,.slice (some ⟨W.heap.size,0,none⟩) fn.homes.length fn.homes.length,.slice none 0 0,.slice op outs.length oc] 177 (0,0))).drew:=(b2.block _ (Zd hS1)).trans hS1;refine hK.out _ _ hS2 (fun hHeld3=>?_);clear hK K;try simp only [Act.put,zA,zB,zC,zD,zE,zF]
 refine wpAnyH_take (i:=9) (v:=?v9) rfl (by kernel_rfl) (by kernel_rfl) (by kernel_rfl) (fun _ _ _ h=>h) (Or.inl ⟨by rfl,?hy9⟩) (by assumption) ?_;case hy9 =>
  intro V hV;try dsimp only at hV
  clear hV;go_simp;all_goals (with_reducible rfl)
 simp only [Act.put,zA,zB,zC,zD,zE,zF];refine wpAnyH_done (by kernel_rfl) ?_ _;clear hHeld hHeld2 hHeld3;rw [z1] at r2 z2;have hr1:=(b2.block _ (Zd r1)).trans r1;have hB3:Below W.heap.size W ((W.alloc (.cells (uC (List.replicate fn.homes.length 0)).toArray 62 (0,0))).alloc (.cells #[.slice qb fn.blocks.length cb,.int .i64 0,.int .i64 0,.slice (some ⟨W.heap.size,0,none⟩) fn.homes.length fn.homes.length,.slice none 0 0,.slice op outs.length oc] 177 (0,0))).drew:=(Za b1 b2 (by omega)).drew;have HF:=J (show Gn w0 ((W.alloc (.cells (uC (List.replicate fn.homes.length 0)).toArray 62 (0,0))).alloc (.cells #[.slice qb fn.blocks.length cb,.int .i64 0,.int .i64 0,.slice (some ⟨W.heap.size,0,none⟩) fn.homes.length fn.homes.length,.slice none 0 0,.slice op outs.length oc] 177 (0,0))).drew ⟨fn,0,0,List.replicate fn.homes.length 0,[],outs⟩ (W.heap.size+1) W.heap.size ((W.alloc (.cells (uC (List.replicate fn.homes.length 0)).toArray 62 (0,0))).alloc (.cells #[.slice qb fn.blocks.length cb,.int .i64 0,.int .i64 0,.slice (some ⟨W.heap.size,0,none⟩) fn.homes.length fn.homes.length,.slice none 0 0,.slice op outs.length oc] 177 (0,0))).drew.heap.size W.heap.size qb none op cb 0 oc [] B from
  ⟨by omega,by show _<((W.alloc (.cells (uC (List.replicate fn.homes.length 0)).toArray 62 (0,0))).alloc (.cells #[.slice qb fn.blocks.length cb,.int .i64 0,.int .i64 0,.slice (some ⟨W.heap.size,0,none⟩) fn.homes.length fn.homes.length,.slice none 0 0,.slice op outs.length oc] 177 (0,0))).heap.size; omega,by omega,by show _<((W.alloc (.cells (uC (List.replicate fn.homes.length 0)).toArray 62 (0,0))).alloc (.cells #[.slice qb fn.blocks.length cb,.int .i64 0,.int .i64 0,.slice (some ⟨W.heap.size,0,none⟩) fn.homes.length fn.homes.length,.slice none 0 0,.slice op outs.length oc] 177 (0,0))).heap.size; omega,by omega,Nat.le_refl _,by simp only [List.length_replicate,List.length_nil]; exact r2,hr1,World.ownsRow_nil _ _ _ _,fun g e=>(by cases e),rfl,fun k hk=>(by simp at hk),fun j k _ hk=>(by simp at hk),(G HD).bs,(G HD).each,G HOU⟩)
 have HB3:=J hB3;have HS3:=J hS2;clear r1 b1 z1 r2 b2 z2 hS1 hS2 hr1 hB3;generalize World.drew (World.alloc (World.alloc W _) _)=V3 at HF HB3 HS3 ⊢;have f3:=cR (G HS3) 3;have HB0W:=J (Za (G HB0) (G HBW) (G HB0).size);go_wp2_with fail
 clear f3;refine Zpz w0 W V3 ⟨fn,0,0,List.replicate fn.homes.length 0,[],outs⟩ (W.heap.size+1) W.heap.size W.heap.size qb op qs cb oc cs fn.slots B _ _ _ _ _ _ _ _ _ _ _ _ _ _ _ _ _ _ _ _ _ _ _ _ _ _ _ _ _ _ _ _ _ _ _ _ _ _ _ _ _ _ _ _ _ _ _ _ _ _ _ _ _ _ _ _ _ _ _ _ _ _ _ _ _ _ _ _ _ _ _ _ _ _ _ _ _ _ _ _ rfl rfl (G HB0W) (G HD).ss (G HNS) hnl (G HF) (G HB3) ?_;intro w1 sp sc gs hF1 hb1 u9 u24 u25 u26 u27 u28 u29 u30 u31 u32 u33 u34 u35 u36 u37 u38 u39 u40;rw [List.take_length] at hF1;have hzb:=G HZ0;have hs1:=(hb1.block w.heap.size (by omega)).trans (G HS0);have f0:=cR hs1 0;have HF1:=J hF1;have HB1:=J hb1;clear hF1 hb1 hs1 HF HB3 HS3 hzb;go_wp2_with fail
 clear f0;refine Zqa w0 W w1 ⟨fn,0,0,List.replicate fn.homes.length 0,[],outs⟩ (W.heap.size+1) W.heap.size w1.heap.size W.heap.size qb sp op pp wp cb sc oc pc wc gs B fn.params ws (List.replicate fn.homes.length 0) (fn.slots.map fun n=>List.replicate (8*n).toNat 0) _ _ _ _ _ _ _ _ _ _ _ _ _ _ _ _ _ _ _ _ _ _ _ _ _ _ _ _ _ _ _ _ _ _ _ _ _ _ _ _ _ _ _ _ _ _ _ _ _ _ _ _ _ _ _ _ _ _ _ _ _ _ _ _ _ _ _ _ _ _ _ _ _ _ _ _ _ _ _ (Nat.le_refl _) (G HB0W) (G HD).ps hpl (G HP) (G HLW) (G HWL) (G HWS) ?s1 (G HF1) (G HB1) ?s2 ?_;case s1 =>
  intro l hl;obtain⟨n,hn,rfl⟩:=List.mem_map.1 hl;obtain⟨i,hi,hi2⟩:=List.getElem_of_mem hn;have:=G HNS i hi;rw [Yu fn.slots 0 i hi,hi2] at this;simp
  omega
 case s2 =>
  refine⟨fun n hn=>?_,fun l hl n hn=>?_⟩
  ·
   rw [List.eq_of_mem_replicate hn]; omega
  ·
   obtain⟨k,-,rfl⟩:=List.mem_map.1 hl;rw [List.eq_of_mem_replicate hn]; omega
 intro w2 hF2 hO2 hok2 u1 u11 u44 u45 u46 u47 u48 u49 u50 u51 u52 u53 u54 u55 u56 u57 u58 u59 u60 u61 u62 u63 u64 u65 u66 u67 u68 u69 u70 u71 u72 u73 u74 u75 u76 u77 u78 u79 u80 u81;have hz:=G HZ0;have HF2:=J hF2;have HOK2:=J hok2;have HB2:=J (show Below w.heap.size w w2 by
  have h1:=Za (G HBW) (G HB1) (by omega);have h1z:=h1.size;have h2:=(G HB1).size;exact⟨hO2.os.trans h1.os,hO2.tape.trans h1.tape,hO2.output.trans h1.output,Nat.le_trans h1z hO2.size,fun q hq=>(hO2.oth q (by omega) (Or.inl (by omega))).trans (h1.block q hq)⟩)
 clear hF2 hO2 hok2 HF1 HB1 hz;go_wp2;go_ret;have hz9:w.heap.size≤W.heap.size:=by have:=G HZ0; omega
 first
  | exact⟨W.heap.size+1,W.heap.size,_,_,_,_,_,rfl,hz9,G HF2,G HB2,G HOK2⟩
  | exact⟨W.heap.size+1,rfl,W.heap.size,hz9,⟨_,_,_,_,_,G HF2⟩,G HB2,G HOK2⟩
structure Yp (P:Zl):Prop where
 cnt:Yw P=true
 head:∃(r:Int) (own:List Int),∀ k,k<P.funcs.length→Yf r own (P.funcs.getD k Ze)=true
 body:∀ k,k<P.funcs.length→Gt P (P.funcs.getD k Ze)=true
 word:∀ f ∈ P.funcs,∀ l ∈ f.blocks,∀ i ∈ l,0≤i.n∧i.n<18446744073709551616
def FnG (P:Zl)(f:Zn):Prop:=∃ k,k<P.funcs.length∧f=P.funcs.getD k Ze
structure FnH (f:Zn):Prop where
 pl:f.params.length≤8
 pw:∀ k,k<f.params.length→0≤(f.params.getD k (0,0)).1∧(f.params.getD k (0,0)).1≤8∧Yd f (f.params.getD k (0,0))=true
 r0:0≤f.results
 r1:f.results≤4
 hl:f.homes.length≤12
 sl:f.slots.length≤6
 sw:∀ k,k<f.slots.length→1≤f.slots.getD k 0∧f.slots.getD k 0≤8
 b1:1≤f.blocks.length
 b12:f.blocks.length≤12
 bk:∀ k,k<f.blocks.length→1≤(f.blocks.getD k []).length∧(f.blocks.getD k []).length≤24
theorem Mw {n lo hi:Int}(h:Yi n lo hi=true):lo≤n∧n≤hi:=of_decide_eq_true h
theorem Gd {α β:Type}(l:List α)(f:α→β)(a:α)(b:β)(k:Nat)(h:k<l.length):(l.map f).getD k b=f (l.getD k a):=by simp [List.getD,h]
theorem Znq {r:Int}{own:List Int}{f:Zn}(h:Yf r own f=true):FnH f:=by
 unfold Yf Je Xn at h;simp only [Bool.and_eq_true,decide_eq_true_eq] at h;obtain⟨h1,⟨-,h2,h3⟩,h4,-,h5,h6,h7,h8,h9⟩:=h;have h2:=Mw h2;have h7:=Mw h7;refine⟨h1,fun k hk=>?_,h2.1,h2.2,h4,h5,fun k hk=>Mw (Xt h6 hk),by omega,by omega,fun k hk=>?_⟩
 ·
  have a:=Mw (Xt h3 (k:=k) (by simpa using hk));rw [Gd f.params (·.1) (0,0) 0 k hk] at a;have b:=Xt h9 hk;unfold Gh at b;simp only [Bool.and_eq_true] at b;exact⟨a.1,a.2,b.1⟩
 ·
  have a:=Mw (Xt h8 hk);omega
theorem Yp.fnH {P:Zl}(h:Yp P){f:Zn}(hf:FnG P f):FnH f:=by
 obtain⟨k,hk,rfl⟩:=hf;obtain⟨r,own,hh⟩:=h.head;exact Znq (hh k hk)
structure Zpd (P:Zl)(f:Zn)(i:Zw)(last:Bool):Prop where
 op0:1≤i.op
 op1:i.op≤18
 lst:decide (14≤i.op)=last
 fld:Zf P f i=true
 n0:0≤i.n
 n1:i.n<18446744073709551616
theorem Yp.insG {P:Zl}(h:Yp P){f:Zn}(hf:FnG P f){b i:Nat}(hb:b<f.blocks.length)(hi:i<(f.blocks.getD b []).length):Zpd P f ((f.blocks.getD b []).getD i Lt) (decide (i+1=(f.blocks.getD b []).length)):=by
 obtain⟨k,hk,rfl⟩:=hf;have hq:=Xt (Xt (h.body k hk) hb) hi;unfold Kg Xd at hq;simp only [Bool.and_eq_true,beq_iff_eq] at hq;obtain⟨h1,h2,-,h4⟩:=hq;have h1:=Mw h1;have hw:=h.word (P.funcs.getD k Ze) (by rw [Yu _ _ _ hk]; exact List.getElem_mem _) ((P.funcs.getD k Ze).blocks.getD b []) (by rw [Yu _ _ _ hb]; exact List.getElem_mem _) (((P.funcs.getD k Ze).blocks.getD b []).getD i Lt) (by rw [Yu _ _ _ hi]; exact List.getElem_mem _);exact⟨h1.1,h1.2,h2,h4,hw.1,hw.2⟩
section
variable {P:Zl} {f:Zn} {i:Zw}
theorem Ub (h:Zf P f i=true)(ho:i.op≤11∨i.op=15):0≤i.d∧i.d<f.homes.length:=by
 unfold Zf at h;repeat' split at h
 all_goals try (exfalso; omega)
 all_goals (simp only [Bool.and_eq_true,Zr,Yi,decide_eq_true_eq] at h; omega)
theorem Zfj (h:Zf P f i=true)(ho:2≤i.op∧i.op≤9):0≤i.a∧i.a<f.homes.length:=by
 unfold Zf at h;repeat' split at h
 all_goals try (exfalso; omega)
 all_goals (simp only [Bool.and_eq_true,Zr,Yi,decide_eq_true_eq] at h; omega)
theorem Zmt (h:Zf P f i=true)(ho:3≤i.op∧i.op≤9):0≤i.bb∧i.bb<f.homes.length:=by
 unfold Zf at h;repeat' split at h
 all_goals try (exfalso; omega)
 all_goals (simp only [Bool.and_eq_true,Zr,Yi,decide_eq_true_eq] at h; omega)
theorem Ul (h:Zf P f i=true)(ho:i.op=10∨i.op=11):0≤i.a∧i.a<f.slots.length∧(i.n=1∨i.n=2∨i.n=4∨i.n=8)∧0≤i.bb∧i.bb+i.n≤8*f.slots.getD i.a.toNat 0:=by
 unfold Zf at h;repeat' split at h
 all_goals try (exfalso; omega)
 all_goals (simp only [Bool.and_eq_true,Zr,Nv,Nq,Yi,decide_eq_true_eq] at h; refine⟨by omega,by omega,h.2.2.1,by omega,by omega⟩)
theorem Ky (h:Zf P f i=true)(ho:i.op=14∨i.op=15):0≤i.a∧i.a<f.blocks.length:=by
 unfold Zf at h;repeat' split at h
 all_goals try (exfalso; omega)
 all_goals (simp only [Bool.and_eq_true,Zr,Yi,decide_eq_true_eq] at h; omega)
theorem Ziy (h:Zf P f i=true)(ho:i.op=15):0≤i.bb∧i.bb<f.blocks.length:=by
 unfold Zf at h;repeat' split at h
 all_goals try (exfalso; omega)
 all_goals (simp only [Bool.and_eq_true,Zr,Yi,decide_eq_true_eq] at h; omega)
theorem Zfk (h:Zf P f i=true)(ho:i.op=16):(i.outs.length:Int)=f.results∧Xg f i.outs=true:=by
 unfold Zf at h;simp only [ho] at h;simpa using h
theorem Ziz (h:Zf P f i=true)(ho:i.op=12):0≤i.f∧i.f<P.funcs.length∧Jh f i (Xn (P.funcs.getD i.f.toNat Ze))=true:=by
 unfold Zf at h;simp only [ho] at h;simp only [Int.reduceEq,if_false,or_self,if_true,Bool.and_eq_true,Yi,decide_eq_true_eq] at h;exact⟨h.1.1,by omega,h.2⟩
theorem Zlj (h:Zf P f i=true)(ho:i.op=13):0≤i.f∧i.f<P.externs.length∧Jh f i (P.externs.getD i.f.toNat ([],0))=true:=by
 unfold Zf at h;simp only [ho] at h;simp only [Int.reduceEq,if_false,or_self,if_true,Bool.and_eq_true,Yi,decide_eq_true_eq] at h;exact⟨h.1.1,by omega,h.2⟩
theorem Zja (h:Zf P f i=true)(ho:i.op=17):0≤i.f∧i.f<P.funcs.length∧Mp f i (Xn (P.funcs.getD i.f.toNat Ze))=true:=by
 unfold Zf at h;simp only [ho] at h;simp only [Int.reduceEq,if_false,or_self,if_true,Bool.and_eq_true,Yi,decide_eq_true_eq] at h;exact⟨h.1.1,by omega,h.2⟩
theorem Dq {l:List Int}(h:Xg f l=true):∀ k,k<l.length→0≤l.getD k 0∧l.getD k 0<f.homes.length:=fun k hk=>by
 have:=Mw (Xt h hk);omega
end
structure Lp (P:Zl)(x:Xl):Prop where
 fn:FnG P x.fn
 b0:0≤x.b
 b1:x.b<x.fn.blocks.length
 i0:0≤x.i
 i1:x.i<(x.fn.blocks.getD x.b.toNat []).length
 v:x.v.length=x.fn.homes.length
 s:x.s.map List.length=x.fn.slots.map fun n=>(8*n).toNat
 ok:IOk x
section
variable {P:Zl} {x:Xl}
theorem Lp.slen (h:Lp P x):x.s.length=x.fn.slots.length:=by
 have:=congrArg List.length h.s;simpa using this
theorem Lp.slot (h:Lp P x){k:Nat}(hk:k<x.s.length):(x.s.getD k []).length=(8*x.fn.slots.getD k 0).toNat:=by
 have e:(x.s.map List.length).getD k 0=(x.fn.slots.map fun n=>(8*n).toNat).getD k 0:=by rw [h.s]
 rw [Gd x.s List.length [] 0 k hk,Gd x.fn.slots (fun n=>(8*n).toNat) 0 0 k (by rw [← h.slen]; exact hk)] at e;exact e
theorem Lp.small (h:Lp P x)(hG:Yp P):∀ l ∈ x.s,l.length≤65536:=fun l hl=>by
 obtain⟨k,hk,rfl⟩:=List.getElem_of_mem hl;have e:=h.slot hk;have:=(hG.fnH h.fn).sw k (by rw [← h.slen]; exact hk);rw [Yu x.s [] k hk] at e;omega
theorem Lp.insG (h:Lp P x)(hG:Yp P):Zpd P x.fn (Zo x) (decide (x.i.toNat+1=(x.fn.blocks.getD x.b.toNat []).length)):=by
 have h1:=h.b0;have h2:=h.b1;have h3:=h.i0;have h4:=h.i1;exact hG.insG h.fn (by omega) (by omega)
theorem Lp.next (h:Lp P x)(hG:Yp P)(ho:(Zo x).op<14):Lp P (Zp x):=by
 have hi:=(h.insG hG).lst;have h3:=h.i0;have h4:=h.i1;rw [decide_eq_false (by omega)] at hi;have hi:=of_decide_eq_false hi.symm;exact⟨h.fn,h.b0,h.b1,by show 0≤x.i+1; omega,by show x.i+1<_; unfold Zp; simp only; omega,h.v,h.s,⟨h.ok.v,h.ok.s⟩⟩
theorem Lp.at_ (h:Lp P x)(hG:Yp P){t:Int}(h0:0≤t)(h1:t<x.fn.blocks.length):Lp P { x with b:=t,i:=0 }:=by
 have:=(hG.fnH h.fn).bk t.toNat (by omega);exact⟨h.fn,h0,h1,Int.le_refl 0,by show(0:Int)<(x.fn.blocks.getD t.toNat []).length; omega,h.v,h.s,⟨h.ok.v,h.ok.s⟩⟩
theorem Ri {l:List Int}{k:Nat}{n m:Int}(h:m ∈ l.set k n):m ∈ l∨m=n:=by
 rcases List.mem_or_eq_of_mem_set h with h | h
 ·
  exact Or.inl h
 ·
  exact Or.inr h
theorem Lp.setV (h:Lp P x)(k:Nat){n:Int}(h0:0≤n)(h1:n<18446744073709551616):Lp P { x with v:=x.v.set k n } :=
 ⟨h.fn,h.b0,h.b1,h.i0,h.i1,by simp [h.v],h.s,⟨fun m hm=>by
  rcases Ri hm with hm | rfl
  ·
   exact h.ok.v m hm
  ·
   exact⟨h0,h1⟩,h.ok.s⟩⟩
theorem Mj {l:List Int}(h:∀ n ∈ l,0≤n∧n<18446744073709551616)(k:Nat):0≤l.getD k 0∧l.getD k 0<18446744073709551616:=by
 by_cases hk:k<l.length
 ·
  exact h _ (Ku hk 0)
 ·
  simp [List.getD,hk]
theorem Zjb {bs:List Int}(h:∀ n ∈ bs,0≤n∧n<256)(a k:Nat)(hk:k≤8):0≤Ns bs a k∧Ns bs a k<18446744073709551616:=by
 have:=Zbr (m:=fun i=>bs.getD i 0) (Dz h) k a;have:=Ry k hk;unfold Ns;omega
theorem Lp.bytes (h:Lp P x)(k:Nat):∀ n ∈ x.s.getD k [],0≤n∧n<256:=by
 by_cases hk:k<x.s.length
 ·
  rw [Yu _ _ _ hk]; exact h.ok.s _ (List.getElem_mem _)
 ·
  intro n hn; simp [List.getD,hk] at hn
theorem Zlk {v ds vs:List Int}(hv:∀ n ∈ v,0≤n∧n<18446744073709551616)(hw:∀ n ∈ vs,0≤n∧n<18446744073709551616):∀ n ∈ Xp v ds vs,0≤n∧n<18446744073709551616:=by
 unfold Xp;induction ds generalizing v vs with
 | nil=>simpa using hv
 | cons d ds ih =>
  cases vs with
  | nil=>simpa using hv
  | cons a vs =>
   simp only [List.zip_cons_cons,List.foldl_cons];refine ih (fun n hn=>?_) (fun n hn=>hw n (List.mem_cons_of_mem _ hn));rcases Ri hn with hn | rfl
   ·
    exact hv n hn
   ·
    exact hw _ List.mem_cons_self
theorem Lp.setVs (h:Lp P x)(ds:List Int){vs:List Int}(hw:∀ n ∈ vs,0≤n∧n<18446744073709551616):Lp P { x with v:=Xp x.v ds vs } :=
 ⟨h.fn,h.b0,h.b1,h.i0,h.i1,by simp [Rd,h.v],h.s,⟨Zlk h.ok.v hw,h.ok.s⟩⟩
theorem Lp.setS (h:Lp P x){k:Nat}{l:List Int}(hl:l.length=(x.s.getD k []).length)(hb:∀ n ∈ l,0≤n∧n<256):Lp P { x with s:=x.s.set k l } :=
 ⟨h.fn,h.b0,h.b1,h.i0,h.i1,h.v,by show(x.s.set k l).map List.length=_; rw [Oo _ _ _ hl,h.s],⟨h.ok.v,fun m hm=>by
  rcases List.mem_or_eq_of_mem_set hm with hm | rfl
  ·
   exact h.ok.s m hm
  ·
   exact hb⟩⟩
theorem Zjc (n:Int):0≤IntKind.u64.wrap n∧IntKind.u64.wrap n<18446744073709551616:=by
 have:IntKind.u64.wrap n=n % 18446744073709551616:=by simp [IntKind.wrap,IntKind.bits,IntKind.signed]
 omega
theorem Zll (op a b:Int):0≤Mv op a b∧Mv op a b<18446744073709551616:=by
 unfold Mv;repeat' split
 all_goals first | exact Zjc _ | omega
theorem Lp.loc (h:Lp P x)(hG:Yp P)(h16:(Zo x).op<16):Lp P (Ld (Zp x) (Zo x)):=by
 have g:=h.insG hG;have hv:=h.ok.v;generalize hi:Zo x=i at g h16 ⊢;by_cases hj:i.op<14
 ·
  have hn:=h.next hG (by rw [hi]; exact hj);unfold Ld;repeat' split
  all_goals try (exfalso; omega)
  ·
   exact hn.setV _ g.n0 g.n1
  ·
   exact hn.setV _ (Mj hv _).1 (Mj hv _).2
  ·
   rename_i h10;have hs:=(Ul g.fld (Or.inl h10)).2.2.1;have:=Zjb (h.bytes i.a.toNat) i.bb.toNat i.n.toNat (by omega);exact hn.setV _ this.1 this.2
  ·
   exact hn.setS (by rw [Ra]) (Ziw (h.bytes i.a.toNat) _ _ _)
  ·
   have:=Zll i.op (x.v.getD i.a.toNat 0) (x.v.getD i.bb.toNat 0);exact hn.setV _ this.1 this.2
 ·
  rcases(show i.op=14∨i.op=15 by omega) with h14 | h15
  ·
   have:=Ky g.fld (Or.inl h14);rw [show Ld (Zp x) i={ x with b:=i.a,i:=0 } by unfold Ld; simp [h14,Zp]];exact(h.at_ hG this.1 this.2)
  ·
   have:=Ky g.fld (Or.inr h15);have:=Ziy g.fld h15;rw [show Ld (Zp x) i={ x with b:=if x.v.getD i.d.toNat 0=0 then i.bb else i.a,i:=0 } by unfold Ld; simp [h15,Zp]];exact(h.at_ hG (t:=if x.v.getD i.d.toNat 0=0 then i.bb else i.a) (by split <;> omega) (by split <;> omega))
theorem Zjd (x:Xl)(a:Int×Int):(Ia x a).length=if a.1=0 then 1 else a.1.toNat:=by
 unfold Ia;split <;> simp
theorem Mx (x:Xl):∀ l:List (Int×Int),(Zv x l).length=Xe l
 | []=>rfl
 | a :: l=>by
  show(Ia x a++Zv x l).length=(if a.1=0 then 1 else a.1.toNat)+Xe l;rw [List.length_append,Zjd,Mx x l]
theorem Of:∀{l m:List (Int×Int)},l.map (·.1)=m.map (·.1)→Xe l=Xe m
 | [],[],_=>rfl
 | [],_ :: _,h=>by simp at h
 | _ :: _,[],h=>by simp at h
 | a :: l,b :: m,h=>by
  simp only [List.map_cons,List.cons.injEq] at h;show(if a.1=0 then 1 else a.1.toNat)+Xe l=(if b.1=0 then 1 else b.1.toNat)+Xe m;rw [h.1,Of h.2]
theorem Og (hok:IOk x)(l:List (Int×Int)):∀ n ∈ Zv x l,0≤n∧n<18446744073709551616:=fun n hn=>by
 obtain⟨a,-,ha⟩:=List.mem_flatMap.1 hn;unfold Ia at ha;split at ha
 ·
  rw [List.mem_singleton.1 ha]; exact Mj hok.v _
 ·
  obtain⟨k,-,rfl⟩:=List.mem_map.1 ha;refine Zjb ?_ _ _ (Nat.le_refl _);by_cases hk:a.2.toNat<x.s.length
  ·
   rw [Yu _ _ _ hk]; exact hok.s _ (List.getElem_mem _)
  ·
   intro n hn; simp [List.getD,hk] at hn
theorem Zct (hok:IOk x)(l:List Int):∀ n ∈ Xf x.v l,0≤n∧n<18446744073709551616:=fun n hn=>by
 obtain⟨k,-,rfl⟩:=List.mem_map.1 hn;exact Mj hok.v _
theorem Zfl {f:Zn}(hv:x.v.length=f.homes.length)(hs:x.s.map List.length=f.slots.map fun n=>(8*n).toNat){a:Int×Int}(h:Yd f a=true)(h0:0≤a.1)(h8:a.1≤8):Rf x a:=by
 unfold Yd at h;have hsl:x.s.length=f.slots.length:=by have:=congrArg List.length hs; simpa using this
 split at h
 ·
  rename_i hz;have:=Mw h;exact⟨h0,h8,by omega,fun _=>by omega,fun hn=>absurd hz hn⟩
 ·
  rename_i hz;simp only [Bool.and_eq_true,decide_eq_true_eq] at h;have h1:=Mw h.1;have h2:=h.2;refine⟨h0,h8,h1.1,fun hn=>absurd hn hz,fun _=>⟨by omega,?_⟩⟩;have hk:a.2.toNat<x.s.length:=by omega
  have e:(x.s.map List.length).getD a.2.toNat 0=(f.slots.map fun n=>(8*n).toNat).getD a.2.toNat 0:=by rw [hs]
  rw [Gd x.s List.length [] 0 _ hk,Gd f.slots (fun n=>(8*n).toNat) 0 0 _ (by omega),h2] at e;omega
theorem Kz {f:Zn}{gs:List (Int×Int)}{ps:List Int}(h:Ju f gs ps=true):gs.map (·.1)=ps∧∀ k,k<gs.length→Yd f (gs.getD k (0,0))=true:=by
 unfold Ju at h;simp only [Bool.and_eq_true,decide_eq_true_eq] at h;obtain⟨h1,h2⟩:=h;have hq:∀ k,k<gs.length→(gs.getD k (0,0)).1=ps.getD k 0∧Yd f (gs.getD k (0,0))=true:=fun k hk=>by
  have:=Xt h2 hk;simpa using this
 refine⟨List.ext_getElem (by simpa using h1) fun k hk1 hk2=>?_,fun k hk=>(hq k hk).2⟩;have hk:k<gs.length:=by simpa using hk1
 have:=(hq k hk).1;rw [Yu gs _ k hk,Yu ps _ k hk2] at this;simpa using this
theorem Zba {gs:List (Int×Int)}{ps:List Int}(h:Lp P x)(ha:Ju x.fn gs ps=true)(hp:∀ k,k<ps.length→0≤ps.getD k 0∧ps.getD k 0≤8)(hl:ps.length≤8):gs.length≤8∧∀ k,k<gs.length→Rf x (gs.getD k (0,0)):=by
 obtain⟨h1,h2⟩:=Kz ha;have hgl:gs.length=ps.length:=by rw [← h1]; simp
 refine⟨by omega,fun k hk=>?_⟩;have:=hp k (by omega);rw [← h1,Gd gs (·.1) (0,0) 0 k hk] at this;exact Zfl h.v h.s (h2 k hk) this.1 this.2
theorem Zbb {f:Zn}(hH:FnH f):(∀ k,k<(Xn f).1.length→0≤(Xn f).1.getD k 0∧(Xn f).1.getD k 0≤8)∧(Xn f).1.length≤8:=by
 unfold Xn;refine⟨fun k hk=>?_,by simpa using hH.pl⟩;have hk':k<f.params.length:=by simpa using hk
 simp only;rw [Gd f.params (·.1) (0,0) 0 k hk'];exact⟨(hH.pw k hk').1,(hH.pw k hk').2.1⟩
theorem Ca:∀(l:List (Int×Int)) (v:List Int) (s:List (List Int)) (ws:List Int),(Lz l v s ws).1.length=v.length∧(Lz l v s ws).2.map List.length=s.map List.length
 | [],v,s,ws=>⟨rfl,rfl⟩
 | p :: r,v,s,ws=>by
  unfold Lz;split
  ·
   have:=Ca r (v.set p.2.toNat (ws.getD 0 0)) s (ws.drop 1);simpa using this
  ·
   have:=Ca r v (s.set p.2.toNat (Rh (s.getD p.2.toNat []) (ws.take p.1.toNat))) (ws.drop p.1.toNat);exact⟨this.1,this.2.trans (Oo _ _ _ (Sa _ _))⟩
theorem Zbc:∀(l:List (Int×Int)) (v:List Int) (s:List (List Int)) (ws:List Int),(∀ n ∈ v,0≤n∧n<18446744073709551616)→(∀ l ∈ s,∀ n ∈ l,0≤n∧n<256)→(∀ n ∈ ws,0≤n∧n<18446744073709551616)→(∀ n ∈ (Lz l v s ws).1,0≤n∧n<18446744073709551616)∧∀ z ∈ (Lz l v s ws).2,∀ n ∈ z,0≤n∧n<256
 | [],v,s,ws,hv,hs,_=>⟨hv,hs⟩
 | p :: r,v,s,ws,hv,hs,hw=>by
  unfold Lz;split
  ·
   refine Zbc r _ s _ (fun n hn=>?_) hs (fun n hn=>hw n (List.mem_of_mem_drop hn));rcases Ri hn with hn | rfl
   ·
    exact hv n hn
   ·
    exact Mj hw 0
  ·
   refine Zbc r v _ _ hv (fun l hl=>?_) (fun n hn=>hw n (List.mem_of_mem_drop hn));rcases List.mem_or_eq_of_mem_set hl with hl | rfl
   ·
    exact hs l hl
   ·
    refine Zcr ?_ _;by_cases hk:p.2.toNat<s.length
    ·
     rw [Yu _ _ _ hk]; exact hs _ (List.getElem_mem _)
    ·
     intro n hn; simp [List.getD,hk] at hn
theorem Cb (hG:Yp P){f:Zn}(hf:FnG P f){ws:List Int}(hw:∀ n ∈ ws,0≤n∧n<18446744073709551616)(o:List Int):Lp P (Jj f ws o):=by
 have hH:=hG.fnH hf;have h1:=hH.b1;have h2:=hH.bk 0 (by omega);have hl:=Ca f.params (List.replicate f.homes.length 0) (f.slots.map fun n=>List.replicate (8*n).toNat 0) ws;have hb:=Zbc f.params (List.replicate f.homes.length 0) (f.slots.map fun n=>List.replicate (8*n).toNat 0) ws (fun n hn=>by rw [List.eq_of_mem_replicate hn]; omega) (fun l hl n hn=>by
  obtain⟨k,-,rfl⟩:=List.mem_map.1 hl;rw [List.eq_of_mem_replicate hn]; omega) hw
 exact⟨hf,Int.le_refl 0,by show(0:Int)<f.blocks.length; omega,Int.le_refl 0,by show(0:Int)<(f.blocks.getD 0 []).length; omega,by show(Lz _ _ _ _).1.length=f.homes.length; rw [hl.1]; simp,by show(Lz _ _ _ _).2.map List.length=f.slots.map _; rw [hl.2]; simp [List.map_map,Function.comp_def],⟨hb.1,hb.2⟩⟩
theorem Zje {f:Zn}(hH:FnH f):∀ k,k<f.params.length→Ziv (List.replicate f.homes.length 0) (f.slots.map fun n=>List.replicate (8*n).toNat 0) (f.params.getD k (0,0)):=fun k hk=>by
 obtain⟨h0,h8,hs⟩:=hH.pw k hk;have:=Zfl (x:=⟨f,0,0,List.replicate f.homes.length 0,f.slots.map fun n=>List.replicate (8*n).toNat 0,[]⟩) (by simp) (by simp) hs h0 h8;exact⟨h0,h8,this.f0,this.v,this.s⟩
theorem Zcu {sc:List Int}(h:∀ n ∈ sc,0≤n∧n<18446744073709551616)(n:Nat):∀ m ∈ Yt sc n,0≤m∧m<18446744073709551616:=fun m hm=>by
 obtain⟨k,-,rfl⟩:=List.mem_map.1 hm;exact Mj h _
end
inductive StR where
 | go (st:List Xl) (sc:List Int) (tr:List (Int×List Int))
 | done (l:List Int) (sc:List Int) (tr:List (Int×List Int))
 | trap (c:Int) (sc:List Int) (tr:List (Int×List Int))
def Oq (P:Zl)(x:Xl)(R:List Xl)(sc:List Int)(tr:List (Int×List Int)):StR :=
 if (Zo x).op=12 then .go (Ma P (Zp x) (Zo x) (Zo x).outs :: Zp x :: R) sc tr
 else if (Zo x).op=13 then .go ({ Zp x with v:=Xp x.v (Zo x).outs (Yt sc (Zo x).outs.length) } :: R) (sc.drop (Zo x).outs.length) (tr++[((Zo x).f,Zv x (Zo x).args)])
 else if (Zo x).op=16 then
  match R with
  | []=>.done (Xf x.v (Zo x).outs) sc tr
  | c :: R'=>.go ({ c with v:=Xp c.v x.o (Xf x.v (Zo x).outs) } :: R') sc tr
 else if (Zo x).op=17 then .go (Ma P (Zp x) (Zo x) x.o :: R) sc tr
 else if (Zo x).op=18 then .trap (Zo x).n sc tr
 else .go (Ld (Zp x) (Zo x) :: R) sc tr
def StR.run (P:Zl)(n:Nat):StR→Ye
 | .go st sc tr=>ev P n st sc tr
 | .done l sc tr=>.done l n sc tr
 | .trap c sc tr=>.trap c n sc tr
theorem Ot (P:Zl)(n:Nat)(x:Xl)(R:List Xl)(sc:List Int)(tr:List (Int×List Int)):ev P (n+1) (x :: R) sc tr=(Oq P x R sc tr).run P n:=by
 conv=>lhs; unfold ev
 unfold Oq;by_cases h12:(Zo x).op=12
 ·
  rw [if_pos h12,if_pos h12]; rfl
 rw [if_neg h12,if_neg h12];by_cases h13:(Zo x).op=13
 ·
  rw [if_pos h13,if_pos h13]; rfl
 rw [if_neg h13,if_neg h13];by_cases h16:(Zo x).op=16
 ·
  rw [if_pos h16,if_pos h16];cases R <;> rfl
 rw [if_neg h16,if_neg h16];by_cases h17:(Zo x).op=17
 ·
  rw [if_pos h17,if_pos h17]; rfl
 rw [if_neg h17,if_neg h17];by_cases h18:(Zo x).op=18
 ·
  rw [if_pos h18,if_pos h18]; rfl
 rw [if_neg h18,if_neg h18];rfl
def WfS (P:Zl):List Xl→Prop
 | []=>False
 | [x]=>Lp P x∧x.o=[]
 | x :: c :: R=>Lp P x∧(x.o.length:Int)=x.fn.results∧(∀ k,k<x.o.length→0≤x.o.getD k 0∧x.o.getD k 0<c.v.length)∧WfS P (c :: R)
section
variable {P:Zl} {x y:Xl} {R:List Xl}
theorem WfS.top (h:WfS P (x :: R)):Lp P x:=by
 cases R with
 | nil=>exact h.1
 | cons c R=>exact h.1
theorem WfS.swap (h:WfS P (x :: R))(hy:Lp P y)(ho:y.o=x.o)(hr:y.fn.results=x.fn.results):WfS P (y :: R):=by
 cases R with
 | nil=>exact⟨hy,ho.trans h.2⟩
 | cons c R=>exact⟨hy,by rw [ho,hr]; exact h.2.1,by rw [ho]; exact h.2.2.1,h.2.2.2⟩
theorem Zfm (y:Xl)(i:Zw):(Ld y i).fn=y.fn:=by
 unfold Ld;repeat' split
 all_goals rfl
theorem Zbd (hG:Yp P)(h:Lp P x)(h12:(Zo x).op=12):FnG P (P.funcs.getD (Zo x).f.toNat Ze)∧((Zo x).outs.length:Int)=(P.funcs.getD (Zo x).f.toNat Ze).results∧(∀ k,k<(Zo x).outs.length→0≤(Zo x).outs.getD k 0∧(Zo x).outs.getD k 0<x.v.length)∧(Zo x).args.map (·.1)=(P.funcs.getD (Zo x).f.toNat Ze).params.map (·.1)∧(Zo x).args.length≤8∧(∀ k,k<(Zo x).args.length→Rf x ((Zo x).args.getD k (0,0)))∧0≤(Zo x).f∧(Zo x).f<P.funcs.length:=by
 obtain⟨h0,h1,h2⟩:=Ziz (h.insG hG).fld h12;have hf:FnG P (P.funcs.getD (Zo x).f.toNat Ze):=⟨_,by omega,rfl⟩;unfold Jh at h2;simp only [Bool.and_eq_true,decide_eq_true_eq] at h2;obtain⟨ha,ho,hl,-⟩:=h2;obtain⟨hs1,hs2⟩:=Zbb (hG.fnH hf);have hk:=Zba h ha hs1 hs2;exact⟨hf,ho,by rw [h.v]; exact Dq hl,(Kz ha).1,hk.1,hk.2,h0,h1⟩
theorem Zdz (hG:Yp P)(h:Lp P x)(h13:(Zo x).op=13):(∀ k,k<(Zo x).outs.length→0≤(Zo x).outs.getD k 0∧(Zo x).outs.getD k 0<x.v.length)∧(Zo x).outs.length≤4∧(Zo x).args.length≤8∧(∀ k,k<(Zo x).args.length→Rf x ((Zo x).args.getD k (0,0))):=by
 obtain⟨h0,h1,h2⟩:=Zlj (h.insG hG).fld h13;unfold Jh at h2;simp only [Bool.and_eq_true,decide_eq_true_eq] at h2;obtain⟨ha,ho,hl,-⟩:=h2;have hc:=hG.cnt;unfold Yw at hc;simp only [Bool.and_eq_true] at hc;have hs:=Xt hc.2.2 (k:=(Zo x).f.toNat) (by omega);unfold Je at hs;simp only [Bool.and_eq_true,decide_eq_true_eq] at hs;have hr:=Mw hs.2.1;have hk:=Zba h ha (fun k hk=>Mw (Xt hs.2.2 hk)) hs.1;exact⟨by rw [h.v]; exact Dq hl,by omega,hk.1,hk.2⟩
theorem Zbe (hG:Yp P)(h:Lp P x)(h16:(Zo x).op=16):((Zo x).outs.length:Int)=x.fn.results∧(Zo x).outs.length≤4∧∀ k,k<(Zo x).outs.length→0≤(Zo x).outs.getD k 0∧(Zo x).outs.getD k 0<x.v.length:=by
 obtain⟨h1,h2⟩:=Zfk (h.insG hG).fld h16;have:=(hG.fnH h.fn).r1;exact⟨h1,by omega,by rw [h.v]; exact Dq h2⟩
theorem Zbf (hG:Yp P)(h:Lp P x)(h17:(Zo x).op=17):FnG P (P.funcs.getD (Zo x).f.toNat Ze)∧(P.funcs.getD (Zo x).f.toNat Ze).results=x.fn.results∧(Zo x).args.map (·.1)=(P.funcs.getD (Zo x).f.toNat Ze).params.map (·.1)∧(Zo x).args.length≤8∧(∀ k,k<(Zo x).args.length→Rf x ((Zo x).args.getD k (0,0)))∧0≤(Zo x).f∧(Zo x).f<P.funcs.length:=by
 obtain⟨h0,h1,h2⟩:=Zja (h.insG hG).fld h17;have hf:FnG P (P.funcs.getD (Zo x).f.toNat Ze):=⟨_,by omega,rfl⟩;unfold Mp at h2;simp only [Bool.and_eq_true,decide_eq_true_eq] at h2;obtain⟨ha,ho⟩:=h2;obtain⟨hs1,hs2⟩:=Zbb (hG.fnH hf);have hk:=Zba h ha hs1 hs2;exact⟨hf,ho,(Kz ha).1,hk.1,hk.2,h0,h1⟩
theorem Zjf (hG:Yp P)(h:WfS P (x :: R)){sc:List Int}(hsc:∀ n ∈ sc,0≤n∧n<18446744073709551616)(tr:List (Int×List Int)):∀{st sc' tr'},Oq P x R sc tr=.go st sc' tr'→WfS P st∧∀ n ∈ sc',0≤n∧n<18446744073709551616:=by
 intro st sc' tr' he;have hx:=h.top;unfold Oq at he;by_cases h12:(Zo x).op=12
 ·
  rw [if_pos h12] at he;injection he with e1 e2 e3;subst e1 e2;obtain⟨hf,ho,hl,-⟩:=Zbd hG hx h12;refine⟨⟨Cb hG hf (Og ⟨hx.ok.v,hx.ok.s⟩ _) _,ho,hl,h.swap (hx.next hG (by omega)) rfl rfl⟩,hsc⟩
 rw [if_neg h12] at he;by_cases h13:(Zo x).op=13
 ·
  rw [if_pos h13] at he;injection he with e1 e2 e3;subst e1 e2;exact⟨h.swap ((hx.next hG (by omega)).setVs _ (Zcu hsc _)) rfl rfl,fun n hn=>hsc n (List.mem_of_mem_drop hn)⟩
 rw [if_neg h13] at he;by_cases h16:(Zo x).op=16
 ·
  rw [if_pos h16] at he;cases R with
  | nil=>cases he
  | cons c R' =>
   injection he with e1 e2 e3;subst e1 e2;exact⟨h.2.2.2.swap (h.2.2.2.top.setVs _ (Zct hx.ok _)) rfl rfl,hsc⟩
 rw [if_neg h16] at he;by_cases h17:(Zo x).op=17
 ·
  rw [if_pos h17] at he;injection he with e1 e2 e3;subst e1 e2;obtain⟨hf,hr,-⟩:=Zbf hG hx h17;exact⟨h.swap (Cb hG hf (Og ⟨hx.ok.v,hx.ok.s⟩ _) _) rfl hr,hsc⟩
 rw [if_neg h17] at he;by_cases h18:(Zo x).op=18
 ·
  rw [if_pos h18] at he;cases he
 rw [if_neg h18] at he;injection he with e1 e2 e3;subst e1 e2;have:=(hx.insG hG).op1;exact⟨h.swap (hx.loc hG (by omega)) (Zdy _ _) (by rw [Zfm]; rfl),hsc⟩
end
theorem Dp (w:World):∀ n,(w.drewN n).heap.size=w.heap.size
 | 0=>rfl
 | n+1=>Dp w.drew n
def Sm (V:World)(b:Nat)(fv ev:Value)(fuel steps:Int)(sv:Value)(kind code:Int)(tv:Value)(fn:Int):Prop:=V.heap[b]?=some (.cells #[fv,ev,.int .i64 fuel,.int .i64 steps,sv,.int .i64 kind,.int .u64 code,tv,.int .i64 fn] 78 (0,0))
theorem Zaz {g j:Nat}{w U:World}{v:Value}(h:Below w.heap.size w U)(hz:U.heap.size=w.heap.size):Oj g w (U.setCell ⟨g,j,none⟩ v):=⟨h.os,h.tape,h.output,by simpa using hz,fun q hq=>(heap_setCell_other _ _ _ _ hq).trans (by
 by_cases hl:q<w.heap.size
 ·
  exact h.block q hl
 ·
  rw [Array.getElem?_eq_none (by omega),Array.getElem?_eq_none (by omega)])⟩
set_option maxHeartbeats 2000000 in
theorem Zli (b:Nat)(fv ev sv tv:Value)(fuel steps kind code fn:Int)(w:World)(h:Sm w b fv ev fuel steps sv kind code tv fn)(he:steps=fuel) :
 Calls Tryz.prog 54 #[.pointer (some ⟨b,0,none⟩)] w fun e w'=>e=.returned (.bool false)∧Oj b w w'∧Sm w' b fv ev fuel steps sv 3 code tv fn:=by
 have HR:=J h;have c2:=cR h 2;have c3:=cR h 3;clear h;have z:(steps==fuel)=true:=by simp [he]
 clear he;go_enter Tryz.func54,Tryz.ntmps54
 go_upto_region 1 with fail
 go_quiet (fail)
 generalize hX:World.drewN w _=U;have hB:Below w.heap.size w U:=by rw [← hX]; exact Zk (Below.refl _ _) _
 have hZ:U.heap.size=w.heap.size:=by rw [← hX]; exact Dp _ _
 have hR:Sm U b fv ev fuel steps sv kind code tv fn:=(hB.block b (Zd (G HR))).trans (G HR);have c5:=cR hR 5;have z5:=frozen_of_row _ _ 5 _ _ hR;have HX:=J (show Sm (U.setCell ⟨b,5,none⟩ (.int .i64 3)) b fv ev fuel steps sv 3 code tv fn from heap_setCell_same _ _ 5 _ _ _ hR);have HO:=J (Zaz (g:=b) (j:=5) (v:=.int .i64 3) hB hZ);clear hX hB hZ hR c2 c3;go_wp2;go_ret;exact⟨rfl,G HO,G HX⟩
set_option maxHeartbeats 2000000 in
theorem Zix (b:Nat)(fv ev sv tv:Value)(fuel steps kind code fn:Int)(w:World)(h:Sm w b fv ev fuel steps sv kind code tv fn)(he:¬ steps=fuel)(h0:0≤steps)(h1:steps≤1000000) :
 Calls Tryz.prog 54 #[.pointer (some ⟨b,0,none⟩)] w fun e w'=>e=.returned (.bool true)∧Oj b w w'∧Sm w' b fv ev fuel (steps+1) sv kind code tv fn:=by
 have HR:=J h;have c2:=cR h 2;have c3:=cR h 3;clear h;have z:(steps==fuel)=false:=by simp [he]
 clear he;go_enter Tryz.func54,Tryz.ntmps54
 go_upto_region 1 with fail
 go_quiet (fail)
 generalize hX:World.drewN w _=U;have hB:Below w.heap.size w U:=by rw [← hX]; exact Zk (Below.refl _ _) _
 have hZ:U.heap.size=w.heap.size:=by rw [← hX]; exact Dp _ _
 have hR:Sm U b fv ev fuel steps sv kind code tv fn:=(hB.block b (Zd (G HR))).trans (G HR);have c3':U.cell? ⟨b,3,none⟩=some (.int .i64 steps):=(cR hR 3);have z3:=frozen_of_row _ _ 3 _ _ hR;have HX:=J (show Sm (U.setCell ⟨b,3,none⟩ (.int .i64 (steps+1))) b fv ev fuel (steps+1) sv kind code tv fn from heap_setCell_same _ _ 3 _ _ _ hR);have HO:=J (Zaz (g:=b) (j:=3) (v:=.int .i64 (steps+1)) hB hZ);clear hX hB hZ hR c2 c3;go_wp2;go_ret;exact⟨rfl,G HO,G HX⟩
set_option maxHeartbeats 2000000 in
theorem Zcs (b:Nat)(fv ev tv:Value)(p:Option Addr)(c:Nat)(fuel steps kind code fn:Int)(w:World)(h:Sm w b fv ev fuel steps (.slice p 0 c) kind code tv fn) :
 Calls Tryz.prog 57 #[.pointer (some ⟨b,0,none⟩)] w fun e w'=>e=.returned (.int .u64 0)∧w'=w:=by
 have c4:=cR h 4;clear h;go_enter Tryz.func57,Tryz.ntmps57
 go_wp2;go_ret;exact⟨rfl,rfl⟩
theorem Gy {w:World}{B B' e size n:Nat}{v:Value}{xs:List Value}(h:w.ownsRow B e size v n xs)(hB:B'≤B):w.ownsRow B' e size v n xs:=by
 refine⟨h.1,?_⟩;rcases h.2 with hn | ⟨g,cap,cur,hv,hb,rest⟩
 ·
  exact .inl hn
 ·
  exact .inr ⟨g,cap,cur,hv,Nat.le_trans hB hb,rest⟩
theorem Zea {P:Program}(w:World)(base:Nat)(t ty e:TypeId)(i:TypeInfo)(z:Value)(size bytes:Nat)(ht:P.underlying t=some (.slice e))(hi:P.info? e=some i)(hz:i.zero=some z)
 (hsize:i.size=size) (hby:i.bytes=bytes) (hzs:z.cells.size=size) (hsz:0<size)
 (v:Value) (n:Nat) (xs:List Value) (hown:w.ownsRow base e size v n xs)
 (a:Addr) (m c:Nat) (news:List Value) (hl:news.length=m*size) (hnews:∀ j u,news[j]?=some u→w.cell? (a.add j)=some u) (h1:∀ u ∈ news,u.oneCell'=true)
 (h63:n+m≤maxLen) (hbytes:(n+m)*bytes≤140737488355328) (hbase:base≤w.heap.size) :
 ∃ v' w',(Builtin.append_ #[t,t] ty #[v,.slice (some a) m c]).run P w=.ok v' w'∧w'.ownsRow base e size v' (n+m) (xs++news)∧w.grownBy w' v.ownBlock∧∀ g,v'.ownBlock=some g→v.ownBlock=some g∨w.heap.size≤g:=by
 obtain⟨v',w',hr,h2,h3,-⟩:=run_append_own (P:=P) w base t ty e i z size bytes ht hi hz hsize hby hzs hsz v n xs hown a m c news hl hnews h1 h63 hbytes hbase;refine⟨v',w',hr,h2,h3,fun g hg=>?_⟩;rcases hown.2 with⟨rfl,rfl⟩ | ⟨g0,cap,cur,rfl,hbg,hg0,hnc,hcm,hcs,htake⟩
 ·
  have hx:xs=[]:=List.eq_nil_of_length_eq_zero (by simpa using hown.1);subst hx;obtain⟨v2,w2,hr2,o2,-,-⟩:=run_append_own (P:=P) w w.heap.size t ty e i z size bytes ht hi hz hsize hby hzs hsz _ 0 [] (World.ownsRow_nil _ _ _ _) a m c news hl hnews h1 h63 hbytes (Nat.le_refl _);rw [hr] at hr2;injection hr2 with e1 e2;subst e1 e2;exact Or.inr (o2.lt g hg).1
 ·
  subst hsize;subst hby;by_cases hroom:n+m≤cap
  ·
   have hfit:n*i.size+news.length≤cur.size:=by rw [hl,hcs,← Nat.add_mul]; exact Nat.mul_le_mul_right _ hroom
   have hr2:=run_append_room (P:=P) w t ty e i ht hi g0 n cap cur hg0 a m c news hl hnews h1 hroom hfit;rw [hr] at hr2;injection hr2 with e1 e2;subst e1;exact Or.inl hg
  ·
   have holds:∀ j u,xs[j]?=some u→w.cell? ((⟨g0,0,none⟩:Addr).add j)=some u:=hown.cells (g:=g0) rfl;have hr2:=run_append_grow (P:=P) w t ty e i z ht hi hz ⟨g0,0,none⟩ n cap xs hown.1 holds a m c news hl hnews (by omega) (by simp only [maxLen] at h63; omega) (growslice_fits (by omega) hbytes);rw [hr] at hr2;injection hr2 with e1 e2;subst e1;injection hg with hg;exact Or.inr (Nat.le_of_eq hg)
theorem Rj {P:Program}{ops:Array Oper}{o:Oper}{a:Act}{w:World}{K:Act→World→Prop}{Q:Exit→Act→World→Prop}{E:Prop}
 (hg:o.guard=none) (s x:Operand) (t:TypeId) (ho:o.op=.call { callee:=.builtin .append,args:=#[s,x],argTypes:=#[t,t] })
 (base:Nat) (e:TypeId) (i:TypeInfo) (z:Value) (size bytes:Nat) (ht:P.underlying t=some (.slice e)) (hi:P.info? e=some i) (hz:i.zero=some z)
 (hsize:i.size=size) (hby:i.bytes=bytes) (hzs:z.cells.size=size) (hsz:0<size)
 (v:Value) (n:Nat) (xs:List Value) (hs:a.eval s=v) (hown:w.ownsRow base e size v n xs)
 (ad:Addr) (m c:Nat) (news:List Value) (hx:a.eval x=.slice (some ad) m c) (hl:news.length=m*size) (hnews:∀ j u,news[j]?=some u→w.cell? (ad.add j)=some u) (h1:∀ u ∈ news,u.oneCell'=true)
 (h63:n+m≤maxLen) (hbytes:(n+m)*bytes≤140737488355328) (hbase:base≤w.heap.size)
 (h:∀ v' w',w'.ownsRow base e size v' (n+m) (xs++news)→w.grownBy w' v.ownBlock→(∀ g,v'.ownBlock=some g→v.ownBlock=some g∨w.heap.size≤g)→K (a.put o.dst v') w') :
 if Region.wanted o (yielded ops a.tmps)=true then Oper.wp P o a w K Q else E:=by
 have hw:Region.wanted o (yielded ops a.tmps)=true:=by simp [Region.wanted,hg]
 rw [if_pos hw];obtain⟨v',w',hr,h2,h3,h4⟩:=Zea (P:=P) w base t o.type e i z size bytes ht hi hz hsize hby hzs hsz v n xs hown ad m c news hl hnews h1 h63 hbytes hbase;unfold Oper.wp execOp;simp only [ho,resolve,invoke,builtin,Sem.run_bind,Sem.run_pure,Result.andThen_ok,List.map_toArray,List.map_cons,List.map_nil,hs,hx,hr];exact h v' w' h2 h3 h4
theorem Zlm {P:Program}{ops:Array Oper}{Q:Exit→Act→World→Prop}{md:Region.Mode}{C:World→Prop}{d:Nat}{i:Nat}{oi od:Oper}{v:Value}{n:Nat}{L:Array Bool}{a:Act}{w:World}(hi:ops[i]?=some oi)(hd:ops[d]?=some od)
 (hk:((od.after.any fun e=>Region.binds md e&&e.on==i)&&(Region.noSelect ops&&(Region.free md ops L i&&((Region.ready md ops L).contains i&&!(L.getD d true)))))=true)
 (hQ:∀ c a w,Q (.panic c) (a.put oi.dst v) w→Q (.panic c) a w) (hy:YieldsIf P ops C oi v a) (hC:C w)
 (h:Uz P md ops Q C d n (L.setIfInBounds i true) (a.put oi.dst v) w):Uz P md ops Q C d (n+1) L a w:=by
 simp only [Bool.and_eq_true,Bool.not_eq_true'] at hk;exact Xm hi hd hk.1 hk.2.1 hk.2.2.1 hk.2.2.2.1 hk.2.2.2.2 hQ hy hC h
structure Mh where
 x:Xl
 q:Nat
 lo:Nat
 hi:Nat
 lg:Nat
 bp:Option Addr
 sp:Option Addr
 op:Option Addr
 bc:Nat
 sc:Nat
 oc:Nat
 gs:List Nat
 B:Nat→Value
def Mh.At (w0 V:World)(f:Mh):Prop:=Gn w0 V f.x f.q f.lo f.hi f.lg f.bp f.sp f.op f.bc f.sc f.oc f.gs f.B
def Zcv (st:List Mh)(g:Nat):Prop:=∀ f ∈ st,g<f.lo∨f.hi≤g
def Nf (st:List Mh):List Value:=st.reverse.map fun f=>.pointer (some ⟨f.q,0,none⟩)
def evC (fs:List Int)(es:List Value):List Value:=(fs.zip es).flatMap fun e=>[.int .i64 e.1,e.2]
structure TrI (V:World)(b:Nat)(N:Nat→Prop)(tv:Value)(tr:List (Int×List Int))(es:List Value):Prop where
 len:es.length=tr.length
 row:V.ownsRow b 82 2 tv tr.length (evC (tr.map (·.1)) es)
 out:∀ g,tv.ownBlock=some g→N g
 each:∀ k,k<tr.length→V.ownsRow b 62 1 (es.getD k .nilIface) (tr.getD k (0,[])).2.length (uC (tr.getD k (0,[])).2)∧∀ g,(es.getD k .nilIface).ownBlock=some g→N g
theorem own_row {w:World}{B e size n g:Nat}{v:Value}{xs:List Value}(h:w.ownsRow B e size v n xs)(hg:v.ownBlock=some g):∃ cs,w.heap[g]?=some (.cells cs e (0,0)):=by
 rcases h.2 with⟨rfl,-⟩ | ⟨g',cap,cur,rfl,-,hr,-⟩
 ·
  cases hg
 ·
  injection hg with hg;subst hg;exact⟨cur,hr⟩
theorem TrI.keep {V V':World}{b:Nat}{N N':Nat→Prop}{tv:Value}{tr:List (Int×List Int)}{es:List Value}(h:TrI V b N tv tr es)(hk:∀ g cs t,V.heap[g]?=some (.cells cs t (0,0))→t=82∨t=62→b≤g→N g→V'.heap[g]?=V.heap[g]?)(hN:∀ g,b≤g→g<V.heap.size→N g→N' g):TrI V' b N' tv tr es:=by
 refine⟨h.len,Yq h.row fun g hg=>?_,fun g hg=>hN g (h.row.lt g hg).1 (h.row.lt g hg).2 (h.out g hg),fun k hkk=>⟨Yq (h.each k hkk).1 fun g hg=>?_,fun g hg=>hN g ((h.each k hkk).1.lt g hg).1 ((h.each k hkk).1.lt g hg).2 ((h.each k hkk).2 g hg)⟩⟩
 ·
  obtain⟨cs,hr⟩:=own_row h.row hg;exact hk g cs _ hr (Or.inl rfl) (h.row.lt g hg).1 (h.out g hg)
 ·
  obtain⟨cs,hr⟩:=own_row (h.each k hkk).1 hg;exact hk g cs _ hr (Or.inr rfl) ((h.each k hkk).1.lt g hg).1 ((h.each k hkk).2 g hg)
def Zmu (rb:Nat)(t0:TypeId)(w w':World):Prop:=∀ g cs t,w.heap[g]?=some (.cells cs t (0,0))→t≠t0→g≠rb→w'.heap[g]?=w.heap[g]?
def Gv (V:World)(rb:Nat)(fv scv frv:Value)(kind:Int)(vv tv:Value)(steps:Int):Prop:=V.heap[rb]?=some (.cells #[fv,scv,frv,.int .i64 kind,vv,.int .i64 0,tv,.int .i64 steps,.int .i64 0] 110 (0,0))
structure Xc (w0 V:World)(rb b:Nat)(st:List Mh)(frv tv:Value)(tr:List (Int×List Int))(es:List Value):Prop where
 low:Below w0.heap.size w0 V
 w0b:w0.heap.size≤b
 rbb:b≤rb
 stk:∀ f ∈ st,f.At w0 V∧rb<f.lo
 ord:st.Pairwise fun u l=>l.hi≤u.lo
 fr:V.ownsRow b 149 1 frv st.length (Nf st)
 fro:∀ g,frv.ownBlock=some g→Zcv st g
 tr:TrI V b (fun g=>Zcv st g∧g≠rb) tv tr es
section
variable {w0 V V':World} {rb b:Nat} {st R:List Mh} {f:Mh} {frv tv:Value} {tr:List (Int×List Int)} {es:List Value}
theorem Xc.grow (h:Xc w0 V rb b st frv tv tr es)(hb:Below V.heap.size V V'):Xc w0 V' rb b st frv tv tr es :=
 ⟨Za h.low hb h.low.size,h.w0b,h.rbb,fun f hf=>⟨Yk (h.stk f hf).1 hb,(h.stk f hf).2⟩,h.ord,Yq h.fr fun g hg=>hb.block g (h.fr.lt g hg).2,h.fro,h.tr.keep (fun g _ _ hr _ _ _=>hb.block g (Zd hr)) (fun _ _ _ h=>h)⟩
theorem Xc.pair (h:Xc w0 V rb b (f :: R) frv tv tr es):∀ u ∈ R,u.hi≤f.lo:=(List.pairwise_cons.1 h.ord).1
theorem Xc.top (h:Xc w0 V rb b (f :: R) frv tv tr es){x:Xl}(hF:Gn w0 V' x f.q f.lo f.hi f.lg f.bp f.sp f.op f.bc f.sc f.oc f.gs f.B)(hO:Sv f.lo f.hi V V'):Xc w0 V' rb b ({ f with x:=x } :: R) frv tv tr es:=by
 have hz:=h.low.size;have hw:=h.w0b;have hr:=h.rbb;have hrl:=(h.stk f List.mem_cons_self).2;have hout:∀ g,Zcv (f :: R) g↔Zcv ({ f with x:=x } :: R) g:=fun g=>by
  unfold Zcv;simp only [List.forall_mem_cons]
 refine⟨⟨hO.os.trans h.low.os,hO.tape.trans h.low.tape,hO.output.trans h.low.output,Nat.le_trans hz hO.size,fun k hk=>(hO.oth k (by omega) (Or.inl (by omega))).trans (h.low.block k hk)⟩,hw,hr,fun u hu=>?_,List.pairwise_cons.2 ⟨h.pair,(List.pairwise_cons.1 h.ord).2⟩,Yq (by simpa [Nf] using h.fr) fun g hg=>hO.oth g (h.fr.lt g hg).2 (h.fro g hg f List.mem_cons_self),fun g hg=>(hout g).1 (h.fro g hg),h.tr.keep (fun g _ _ hr _ _ hN=>hO.oth g (Zd hr) (hN.1 f List.mem_cons_self)) (fun g _ _ hN=>⟨(hout g).1 hN.1,hN.2⟩)⟩;rcases List.mem_cons.1 hu with rfl | hu
 ·
  exact⟨hF,hrl⟩
 ·
  have h1:=h.stk u (List.mem_cons_of_mem _ hu);have h2:=h.pair u hu;exact⟨Mu h1.1 (fun g g1 g2=>hO.oth g (Nat.lt_of_lt_of_le g2 h1.1.hs) (Or.inl (by omega))) hO.size,h1.2⟩
theorem Xc.own (h:Xc w0 V rb b st frv tv tr es)(hrow:∃ cs,V.heap[rb]?=some (.cells cs 110 (0,0)))(hO:Oj rb V V'):Xc w0 V' rb b st frv tv tr es:=by
 have hw:=h.w0b;have hr:=h.rbb;obtain⟨cs,hrow⟩:=hrow;have hne:∀ g,frv.ownBlock=some g→g≠rb:=fun g hg e=>Xu h.fr hrow (by decide) (by rw [hg,e]);refine⟨⟨hO.os.trans h.low.os,hO.tape.trans h.low.tape,hO.output.trans h.low.output,by rw [hO.size]; exact h.low.size,fun k hk=>(hO.oth k (by omega)).trans (h.low.block k hk)⟩,hw,hr,fun u hu=>⟨Mu (h.stk u hu).1 (fun g g1 _=>hO.oth g (by have:=(h.stk u hu).2; omega)) (Nat.le_of_eq hO.size.symm),(h.stk u hu).2⟩,h.ord,Yq h.fr fun g hg=>hO.oth g (hne g hg),h.fro,h.tr.keep (fun g _ _ _ _ _ hN=>hO.oth g hN.2) (fun _ _ _ h=>h)⟩
theorem Xc.drop (h:Xc w0 V rb b (f :: R) frv tv tr es){p:Option Addr}{c:Nat}(hv:frv=.slice p (R.length+1) c):Xc w0 V rb b R (.slice p R.length c) tv tr es:=by
 subst hv;have hsub:∀ g,Zcv (f :: R) g→Zcv R g:=fun g hg u hu=>hg u (List.mem_cons_of_mem _ hu);refine⟨h.low,h.w0b,h.rbb,fun u hu=>h.stk u (List.mem_cons_of_mem _ hu),(List.pairwise_cons.1 h.ord).2,?_,fun g hg=>hsub g (h.fro g (by cases p <;> exact hg)),h.tr.keep (fun _ _ _ _ _ _ _=>rfl) (fun g _ _ hN=>⟨hsub g hN.1,hN.2⟩)⟩;rcases h.fr.2 with⟨e,hn⟩ | ⟨g,cap,cur,e,hb,hg,hnc,hcm,hcs,ht⟩
 ·
  simp at hn
 ·
  injection e with e1 e2 e3;subst e1 e3;refine⟨by simp [Nf],.inr ⟨g,_,cur,rfl,hb,hg,by simp at hnc; omega,hcm,hcs,?_⟩⟩;have h2:Nf (f :: R)=Nf R++[.pointer (some ⟨f.q,0,none⟩)]:=by simp [Nf]
  rw [h2] at ht;have h3:=congrArg (List.take R.length) ht;rw [List.take_take] at h3;simp only [List.length_cons,Nat.mul_one] at h3 ⊢;rw [Nat.min_eq_left (by omega),List.take_left' (by simp [Nf])] at h3;exact h3
theorem Xc.push {V2 V3:World}{frv':Value}(h:Xc w0 V rb b st frv tv tr es)(hrow:∃ cs,V.heap[rb]?=some (.cells cs 110 (0,0)))(hb:Below V.heap.size V V2)(hf:f.At w0 V2)(hlo:V.heap.size≤f.lo)(hg:V2.grownBy V3 frv.ownBlock)
 (ho:V3.ownsRow b 149 1 frv' (st.length+1) (Nf st++[.pointer (some ⟨f.q,0,none⟩)])) (hblk:∀ g,frv'.ownBlock=some g→frv.ownBlock=some g∨V2.heap.size≤g) (j:Nat) (u:Value) :
 Xc w0 (V3.setCell ⟨rb,j,none⟩ u) rb b (f :: st) frv' tv tr es∧Below b V (V3.setCell ⟨rb,j,none⟩ u)∧Zmu rb 149 V (V3.setCell ⟨rb,j,none⟩ u):=by
 obtain⟨cs,hrow⟩:=hrow;have hw:=h.w0b;have hr:=h.rbb;have hrl:=Zd hrow;have hz:=hb.size;have hgz:=hg.size;have hfb:∀ g,frv.ownBlock=some g→b≤g∧g<V.heap.size:=h.fr.lt;have hne:∀ g,frv.ownBlock=some g→g≠rb:=fun g hg e=>Xu h.fr hrow (by decide) (by rw [hg,e]);have hsame:∀ g,g<V2.heap.size→frv.ownBlock≠some g→g≠rb→(V3.setCell ⟨rb,j,none⟩ u).heap[g]?=V2.heap[g]?:=fun g h1 h2 h3=>(heap_setCell_other _ _ _ _ h3).trans (hg.block g h1 (fun e=>h2 e.symm));have hsame0:∀ g,g<V.heap.size→frv.ownBlock≠some g→g≠rb→(V3.setCell ⟨rb,j,none⟩ u).heap[g]?=V.heap[g]?:=fun g h1 h2 h3=>(hsame g (by omega) h2 h3).trans (hb.block g h1);have hsz:(V3.setCell ⟨rb,j,none⟩ u).heap.size=V3.heap.size:=by simp
 have hB:Below b V (V3.setCell ⟨rb,j,none⟩ u):=⟨hg.os.trans hb.os,hg.tape.trans hb.tape,hg.output.trans hb.output,by rw [hsz]; omega,fun g hg'=>hsame0 g (by omega) (fun e=>by have:=(hfb g e).1; omega) (by omega)⟩;refine⟨⟨⟨hB.os.trans h.low.os,hB.tape.trans h.low.tape,hB.output.trans h.low.output,Nat.le_trans h.low.size hB.size,fun g hg'=>(hB.block g (by omega)).trans (h.low.block g hg')⟩,hw,hr,fun v hv=>?_,List.pairwise_cons.2 ⟨fun v hv=>Nat.le_trans (h.stk v hv).1.hs hlo,h.ord⟩,?_,fun g hg' v hv=>?_,h.tr.keep (fun g cs' t hr' ht hb' hN=>hsame0 g (Zd hr') (fun e=>?_) hN.2) (fun g _ hlt hN=>⟨fun v hv=>?_,hN.2⟩)⟩,hB,fun g cs' t hr' ht hne'=>hsame0 g (Zd hr') (fun e=>?_) hne'⟩
 ·
  rcases List.mem_cons.1 hv with rfl | hv
  ·
   exact⟨Mu hf (fun g g1 g2=>hsame g (Nat.lt_of_lt_of_le g2 hf.hs) (fun e=>by have:=(hfb g e).2; omega) (by omega)) (by rw [hsz]; omega),by omega⟩
  ·
   have k:=h.stk v hv;exact⟨Mu k.1 (fun g g1 g2=>hsame0 g (Nat.lt_of_lt_of_le g2 k.1.hs) (fun e=>by rcases h.fro g e v hv with h' | h' <;> omega) (by omega)) (by rw [hsz]; omega),k.2⟩
 ·
  have ho2:=Yq (V':=V3.setCell ⟨rb,j,none⟩ u) ho fun g hg'=>heap_setCell_other _ _ _ _ (by
   rcases hblk g hg' with e | e
   ·
    exact hne g e
   ·
    show g≠rb; omega)
  simpa [Nf] using ho2
 ·
  have:=hf.hs;rcases List.mem_cons.1 hv with rfl | hv
  ·
   rcases hblk g hg' with e | e
   ·
    have:=(hfb g e).2; omega
   ·
    omega
  ·
   rcases hblk g hg' with e | e
   ·
    exact h.fro g e v hv
   ·
    have:=(h.stk v hv).1.hs; omega
 ·
  obtain⟨cs2,hr2⟩:=own_row h.fr e;rcases ht with rfl | rfl
  ·
   exact Zs hr2 hr' (by decide) rfl
  ·
   exact Zs hr2 hr' (by decide) rfl
 ·
  rcases List.mem_cons.1 hv with rfl | hv
  ·
   omega
  ·
   exact hN.1 v hv
 ·
  obtain⟨cs2,hr2⟩:=own_row h.fr e;exact Zs hr2 hr' (fun e=>ht e.symm) rfl
end
end Go.Proofs.YteddfaconabobaaGreatDoor
