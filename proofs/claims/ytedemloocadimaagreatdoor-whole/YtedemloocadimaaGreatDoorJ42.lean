import Derived.Test.YtedemloocadimaaGreatDoorJ24
import Derived.Test.YtedemloocadimaaGreatDoorInN
import Derived.Test.YtedemloocadimaaGreatDoorJ40
import Derived.WalkKit
import Derived.Deep.RegionHeld3
namespace Go.Proofs.YtedemloocadimaaGreatDoor
open Go.RowKit
set_option maxHeartbeats 8000000
set_option maxRecDepth 100000
theorem Zmx (w0 w:World)(fn:Zy)(ws outs:List Int)(pp qh qs qb wp op:Option Addr)(pc ch cs cb wc oc:Nat)(B:Nat→Value)(hD:Zaa w0 fn (.slice pp fn.params.length pc) (.slice qh fn.homes.length ch) (.slice qs fn.slots.length cs) (.slice qb fn.blocks.length cb) B)(hbw0:Below w0.heap.size w0 w)(hW:Cg w (.slice wp ws.length wc) ws)(hOu:Li w0 (.slice op outs.length oc) outs)
 (hP:∀ k,k<fn.params.length→Zvc (List.replicate fn.homes.length 0) (fn.slots.map fun n=>List.replicate (8*n).toNat 0) (fn.params.getD k (0,0))) (hns:∀ k,k<fn.slots.length→0≤fn.slots.getD k 0∧fn.slots.getD k 0≤8) (hnl:fn.slots.length≤6) (hpl:fn.params.length≤8) (hhl:fn.homes.length≤12) (hwl:ws.length=Mr fn.params) (hws:∀ n ∈ ws,0≤n∧n<18446744073709551616) :
 Calls Tryz.prog 112 #[.agg #[.slice pp fn.params.length pc,.int .i64 fn.results,.slice qh fn.homes.length ch,.slice qs fn.slots.length cs,.slice qb fn.blocks.length cb],.slice wp ws.length wc,.slice op outs.length oc] w fun e w'=>∃ q lo hi lg sp sc gs,e=.returned (.pointer (some ⟨q,0,none⟩))∧w.heap.size≤lo∧Na w0 w' (Ka fn ws outs) q lo hi lg qb sp op cb sc oc gs B∧Below w.heap.size w w'∧IOk (Ka fn ws outs):=by
 obtain⟨r0,hb0,hz0⟩:=Gk w (.cells #[.slice pp fn.params.length pc,.int .i64 fn.results,.slice qh fn.homes.length ch,.slice qs fn.slots.length cs,.slice qb fn.blocks.length cb] 93 (0,0));have HD:=Za hD;have HOU:=Za hOu;have HP:=Za hP;have HNS:=Za hns;have HWL:=Za hwl;have HWS:=Za hws;have HLW:=Za (Nx hW hb0);have HMK:=fun V=>mkU fn.homes.length (by omega) V;have HB0:=Za hbw0;have HBW:=Za hb0;have HZ0:=Za hz0;have HS0:=Za r0;clear hD hOu hP hns hwl hws hW r0 hb0 hz0 hbw0;go_enter Tryz.func112,Tryz.ntmps112
 go_upto_region 1 with fail
 generalize World.alloc w _=W at HLW HBW HZ0 HS0 ⊢;have HS:=Za (show(fun V=>V.heap[w.heap.size]?=some (.cells #[.slice pp fn.params.length pc,.int .i64 fn.results,.slice qh fn.homes.length ch,.slice qs fn.slots.length cs,.slice qb fn.blocks.length cb] 93 (0,0))) W.drew from J HS0);refine wp_region_held_drew (S:=fun V=>V.heap[w.heap.size]?=some (.cells #[.slice pp fn.params.length pc,.int .i64 fn.results,.slice qh fn.homes.length ch,.slice qs fn.slots.length cs,.slice qb fn.blocks.length cb] 93 (0,0))) (by kernel_rfl) (J HS) (fun hHeld=>?_);refine wpAnyH_take (i:=0) (v:=?v0) rfl (by kernel_rfl) (by kernel_rfl) (by kernel_rfl) (fun _ _ _ h=>h) (Or.inl ⟨by rfl,?hy0⟩) (by assumption) ?_;case hy0 =>
  intro V hV;try dsimp only at hV
  clear hV;go_simp;all_goals (with_reducible rfl)
 simp only [Act.put,zA,zB,zC,zD,zE];refine wpAnyH_take (i:=1) (v:=?v1) rfl (by kernel_rfl) (by kernel_rfl) (by kernel_rfl) (fun _ _ _ h=>h) (Or.inl ⟨by rfl,?hy1⟩) (by assumption) ?_;case hy1 =>
  intro V hV;try dsimp only at hV
  have c:=cR hV 4;clear hV;go_simp;all_goals (with_reducible rfl)
 simp only [Act.put,zA,zB,zC,zD,zE,zF];refine wpAnyH_take (i:=2) (v:=?v2) rfl (by kernel_rfl) (by kernel_rfl) (by kernel_rfl) (fun _ _ _ h=>h) (Or.inl ⟨by rfl,?hy2⟩) (by assumption) ?_;case hy2 =>
  intro V hV;try dsimp only at hV
  clear hV;go_simp;all_goals (with_reducible rfl)
 simp only [Act.put,zA,zB,zC,zD,zE,zF];refine wpAnyH_take (i:=3) (v:=?v3) rfl (by kernel_rfl) (by kernel_rfl) (by kernel_rfl) (fun _ _ _ h=>h) (Or.inl ⟨by rfl,?hy3⟩) (by assumption) ?_;case hy3 =>
  intro V hV;try dsimp only at hV
  have c:=cR hV 2;clear hV;go_simp;all_goals (with_reducible rfl)
 simp only [Act.put,zA,zB,zC,zD,zE,zF];refine wpAnyH_take (i:=4) (v:=?v4) rfl (by kernel_rfl) (by kernel_rfl) (by kernel_rfl) (fun _ _ _ h=>h) (Or.inl ⟨by rfl,?hy4⟩) (by assumption) ?_;case hy4 =>
  intro V hV;try dsimp only at hV
  clear hV;go_simp;all_goals (with_reducible rfl)
 simp only [Act.put,zA,zB,zC,zD,zE,zF];refine wpAnyH_take (i:=6) (v:=?v6) rfl (by kernel_rfl) (by kernel_rfl) (by kernel_rfl) (fun _ _ _ h=>h) (Or.inl ⟨by rfl,?hy6⟩) (by assumption) ?_;case hy6 =>
  intro V hV;try dsimp only at hV
  clear hV;go_simp;all_goals (with_reducible rfl)
 simp only [Act.put,zA,zB,zC,zD,zE,zF];refine tO 5 fun K hK=>?_;go_simp;obtain⟨r1,b1,z1⟩:=Gk W (.cells (uC (List.replicate fn.homes.length 0)).toArray 50 (0,0));have hS1:(fun V=>V.heap[w.heap.size]?=some (.cells #[.slice pp fn.params.length pc,.int .i64 fn.results,.slice qh fn.homes.length ch,.slice qs fn.slots.length cs,.slice qb fn.blocks.length cb] 93 (0,0))) (W.alloc (.cells (uC (List.replicate fn.homes.length 0)).toArray 50 (0,0))).drew:=(b1.block _ (Zk (J HS))).trans (J HS);refine kO hK hS1 (fun hHeld2=>?_);clear hK K;refine wpAnyH_take (i:=7) (v:=?v7) rfl (by kernel_rfl) (by kernel_rfl) (by kernel_rfl) (fun _ _ _ h=>h) (Or.inl ⟨by rfl,?hy7⟩) (by assumption) ?_;case hy7 =>
  intro V hV;try dsimp only at hV
  clear hV;go_simp;all_goals (with_reducible rfl)
 simp only [Act.put,zA,zB,zC,zD,zE,zF];refine tO 8 fun K hK=>?_;go_simp;obtain⟨r2,b2,z2⟩:=Gk (W.alloc (.cells (uC (List.replicate fn.homes.length 0)).toArray 50 (0,0))) (.cells #[.slice qb fn.blocks.length cb,.int .i64 0,.int .i64 0,.slice (some ⟨W.heap.size,0,none⟩) fn.homes.length fn.homes.length,.slice none 0 0,.slice op outs.length oc] 309 (0,0));have hS2:(fun V=>V.heap[w.heap.size]?=some (.cells #[.slice pp fn.params.length pc,.int .i64 fn.results,.slice qh fn.homes.length ch,.slice qs fn.slots.length cs,.slice qb fn.blocks.length cb] 93 (0,0))) ((W.alloc (.cells (uC (List.replicate fn.homes.length 0)).toArray 50 (0,0))).alloc (.cells #[.slice qb fn.blocks.length cb,.int .i64 0,.int .i64 0,.slice (some ⟨W.heap.size,0,none⟩) fn.homes.length fn.homes.length,.slice none 0 0,.slice op outs.length oc] 309 (0,0))).drew:=(b2.block _ (Zk hS1)).trans hS1;refine kO hK hS2 (fun hHeld3=>?_);clear hK K;refine wpAnyH_take (i:=9) (v:=?v9) rfl (by kernel_rfl) (by kernel_rfl) (by kernel_rfl) (fun _ _ _ h=>h) (Or.inl ⟨by rfl,?hy9⟩) (by assumption) ?_;case hy9 =>
  intro V hV;try dsimp only at hV
  clear hV;go_simp;all_goals (with_reducible rfl)
 simp only [Act.put,zA,zB,zC,zD,zE,zF];refine wpAnyH_done (by kernel_rfl) ?_ _;clear hHeld hHeld2 hHeld3;rw [z1] at r2 z2;have hr1:=(b2.block _ (Zk r1)).trans r1;have hB3:Below W.heap.size W ((W.alloc (.cells (uC (List.replicate fn.homes.length 0)).toArray 50 (0,0))).alloc (.cells #[.slice qb fn.blocks.length cb,.int .i64 0,.int .i64 0,.slice (some ⟨W.heap.size,0,none⟩) fn.homes.length fn.homes.length,.slice none 0 0,.slice op outs.length oc] 309 (0,0))).drew:=(Zd b1 b2 (by omega)).drew;have HF:=Za (show Na w0 ((W.alloc (.cells (uC (List.replicate fn.homes.length 0)).toArray 50 (0,0))).alloc (.cells #[.slice qb fn.blocks.length cb,.int .i64 0,.int .i64 0,.slice (some ⟨W.heap.size,0,none⟩) fn.homes.length fn.homes.length,.slice none 0 0,.slice op outs.length oc] 309 (0,0))).drew ⟨fn,0,0,List.replicate fn.homes.length 0,[],outs⟩ (W.heap.size+1) W.heap.size ((W.alloc (.cells (uC (List.replicate fn.homes.length 0)).toArray 50 (0,0))).alloc (.cells #[.slice qb fn.blocks.length cb,.int .i64 0,.int .i64 0,.slice (some ⟨W.heap.size,0,none⟩) fn.homes.length fn.homes.length,.slice none 0 0,.slice op outs.length oc] 309 (0,0))).drew.heap.size W.heap.size qb none op cb 0 oc [] B from
  ⟨by omega,by show _<((W.alloc (.cells (uC (List.replicate fn.homes.length 0)).toArray 50 (0,0))).alloc (.cells #[.slice qb fn.blocks.length cb,.int .i64 0,.int .i64 0,.slice (some ⟨W.heap.size,0,none⟩) fn.homes.length fn.homes.length,.slice none 0 0,.slice op outs.length oc] 309 (0,0))).heap.size; omega,by omega,by show _<((W.alloc (.cells (uC (List.replicate fn.homes.length 0)).toArray 50 (0,0))).alloc (.cells #[.slice qb fn.blocks.length cb,.int .i64 0,.int .i64 0,.slice (some ⟨W.heap.size,0,none⟩) fn.homes.length fn.homes.length,.slice none 0 0,.slice op outs.length oc] 309 (0,0))).heap.size; omega,by omega,Nat.le_refl _,by simp only [List.length_replicate,List.length_nil]; exact r2,hr1,World.ownsRow_nil _ _ _ _,fun g e=>(by cases e),rfl,fun k hk=>(by simp at hk),fun j k _ hk=>(by simp at hk),(J HD).bs,(J HD).each,J HOU⟩)
 have HB3:=Za hB3;have HS3:=Za hS2;clear r1 b1 z1 r2 b2 z2 hS1 hS2 hr1 hB3;generalize World.drew (World.alloc (World.alloc W _) _)=V3 at HF HB3 HS3 ⊢;have f3:=cR (J HS3) 3;have HB0W:=Za (Zd (J HB0) (J HBW) (J HB0).size);go_wp2_with fail
 clear f3;refine Yhh w0 W V3 ⟨fn,0,0,List.replicate fn.homes.length 0,[],outs⟩ (W.heap.size+1) W.heap.size W.heap.size qb op qs cb oc cs fn.slots B _ _ _ _ _ _ _ _ _ _ _ _ _ _ _ _ _ _ _ _ _ _ _ _ _ _ _ _ _ _ _ _ _ _ _ _ _ _ _ _ _ _ _ _ _ _ _ _ _ _ _ _ _ _ _ _ _ _ _ _ _ _ _ _ _ _ _ _ _ _ _ _ _ _ _ _ _ _ _ _ rfl rfl (J HB0W) (J HD).ss (J HNS) hnl (J HF) (J HB3) ?_;intro w1 sp sc gs hF1 hb1 u9 u24 u25 u26 u27 u28 u29 u30 u31 u32 u33 u34 u35 u36 u37 u38 u39 u40;rw [List.take_length] at hF1;have hzb:=J HZ0;have hs1:=(hb1.block w.heap.size (by omega)).trans (J HS0);have f0:=cR hs1 0;have HF1:=Za hF1;have HB1:=Za hb1;clear hF1 hb1 hs1 HF HB3 HS3 hzb;go_wp2_with fail
 clear f0;refine Yhi w0 W w1 ⟨fn,0,0,List.replicate fn.homes.length 0,[],outs⟩ (W.heap.size+1) W.heap.size w1.heap.size W.heap.size qb sp op pp wp cb sc oc pc wc gs B fn.params ws (List.replicate fn.homes.length 0) (fn.slots.map fun n=>List.replicate (8*n).toNat 0) _ _ _ _ _ _ _ _ _ _ _ _ _ _ _ _ _ _ _ _ _ _ _ _ _ _ _ _ _ _ _ _ _ _ _ _ _ _ _ _ _ _ _ _ _ _ _ _ _ _ _ _ _ _ _ _ _ _ _ _ _ _ _ _ _ _ _ _ _ _ _ _ _ _ _ _ _ _ _ (Nat.le_refl _) (J HB0W) (J HD).ps hpl (J HP) (J HLW) (J HWL) (J HWS) ?s1 (J HF1) (J HB1) ?s2 ?_;case s1 =>
  intro l hl;obtain⟨n,hn,rfl⟩:=List.mem_map.1 hl;obtain⟨i,hi,hi2⟩:=List.getElem_of_mem hn;have:=J HNS i hi;rw [Gt fn.slots 0 i hi,hi2] at this;simp
  omega
 case s2 =>
  refine⟨fun n hn=>?_,fun l hl n hn=>?_⟩
  ·
   rw [List.eq_of_mem_replicate hn]; omega
  ·
   obtain⟨k,-,rfl⟩:=List.mem_map.1 hl;rw [List.eq_of_mem_replicate hn]; omega
 intro w2 hF2 hO2 hok2 u1 u11 u44 u45 u46 u47 u48 u49 u50 u51 u52 u53 u54 u55 u56 u57 u58 u59 u60 u61 u62 u63 u64 u65 u66 u67 u68 u69 u70 u71 u72 u73 u74 u75 u76 u77 u78 u79 u80 u81;have hz:=J HZ0;have HF2:=Za hF2;have HOK2:=Za hok2;have HB2:=Za (show Below w.heap.size w w2 by
  have h1:=Zd (J HBW) (J HB1) (by omega);have h1z:=h1.size;have h2:=(J HB1).size;exact⟨hO2.os.trans h1.os,hO2.tape.trans h1.tape,hO2.output.trans h1.output,Nat.le_trans h1z hO2.size,fun q hq=>(hO2.oth q (by omega) (Or.inl (by omega))).trans (h1.block q hq)⟩)
 clear hF2 hO2 hok2 HF1 HB1 hz;go_wp2;go_ret;have hz9:w.heap.size≤W.heap.size:=by have:=J HZ0; omega
 first
  | exact⟨W.heap.size+1,W.heap.size,_,_,_,_,_,rfl,hz9,J HF2,J HB2,J HOK2⟩
  | exact⟨W.heap.size+1,rfl,W.heap.size,hz9,⟨_,_,_,_,_,J HF2⟩,J HB2,J HOK2⟩
structure Gp (P:Zw):Prop where
 cnt:Ld P=true
 head:∃(r:Int) (own:List Int),∀ k,k<P.funcs.length→Jr r own (P.funcs.getD k Zp)=true
 body:∀ k,k<P.funcs.length→De P (P.funcs.getD k Zp)=true
 word:∀ f ∈ P.funcs,∀ l ∈ f.blocks,∀ i ∈ l,0≤i.n∧i.n<18446744073709551616
def FnG (P:Zw)(f:Zy):Prop:=∃ k,k<P.funcs.length∧f=P.funcs.getD k Zp
structure FnH (f:Zy):Prop where
 pl:f.params.length≤8
 pw:∀ k,k<f.params.length→0≤(f.params.getD k (0,0)).1∧(f.params.getD k (0,0)).1≤8∧Mo f (f.params.getD k (0,0))=true
 r0:0≤f.results
 r1:f.results≤4
 hl:f.homes.length≤12
 sl:f.slots.length≤6
 sw:∀ k,k<f.slots.length→1≤f.slots.getD k 0∧f.slots.getD k 0≤8
 b1:1≤f.blocks.length
 b12:f.blocks.length≤12
 bk:∀ k,k<f.blocks.length→1≤(f.blocks.getD k []).length∧(f.blocks.getD k []).length≤24
theorem Dn {n lo hi:Int}(h:Gm n lo hi=true):lo≤n∧n≤hi:=of_decide_eq_true h
theorem Uc {α β:Type}(l:List α)(f:α→β)(a:α)(b:β)(k:Nat)(h:k<l.length):(l.map f).getD k b=f (l.getD k a):=by simp [List.getD,h]
theorem Ydy {r:Int}{own:List Int}{f:Zy}(h:Jr r own f=true):FnH f:=by
 unfold Jr Rn Oc at h;simp only [Bool.and_eq_true,decide_eq_true_eq] at h;obtain⟨h1,⟨-,h2,h3⟩,h4,-,h5,h6,h7,h8,h9⟩:=h;have h2:=Dn h2;have h7:=Dn h7;refine⟨h1,fun k hk=>?_,h2.1,h2.2,h4,h5,fun k hk=>Dn (Nd h6 hk),by omega,by omega,fun k hk=>?_⟩
 ·
  have a:=Dn (Nd h3 (k:=k) (by simpa using hk));rw [Uc f.params (·.1) (0,0) 0 k hk] at a;have b:=Nd h9 hk;unfold Ia at b;simp only [Bool.and_eq_true] at b;exact⟨a.1,a.2,b.1⟩
 ·
  have a:=Dn (Nd h8 hk);omega
theorem Gp.fnH {P:Zw}(h:Gp P){f:Zy}(hf:FnG P f):FnH f:=by
 obtain⟨k,hk,rfl⟩:=hf;obtain⟨r,own,hh⟩:=h.head;exact Ydy (hh k hk)
structure Yfz (P:Zw)(f:Zy)(i:Zq)(last:Bool):Prop where
 op0:1≤i.op
 op1:i.op≤18
 lst:decide (14≤i.op)=last
 fld:Zu P f i=true
 n0:0≤i.n
 n1:i.n<18446744073709551616
theorem Gp.insG {P:Zw}(h:Gp P){f:Zy}(hf:FnG P f){b i:Nat}(hb:b<f.blocks.length)(hi:i<(f.blocks.getD b []).length):Yfz P f ((f.blocks.getD b []).getD i Dd) (decide (i+1=(f.blocks.getD b []).length)):=by
 obtain⟨k,hk,rfl⟩:=hf;have hq:=Nd (Nd (h.body k hk) hb) hi;unfold Zlq Zce at hq;simp only [Bool.and_eq_true,beq_iff_eq] at hq;obtain⟨h1,h2,-,h4⟩:=hq;have h1:=Dn h1;have hw:=h.word (P.funcs.getD k Zp) (by rw [Gt _ _ _ hk]; exact List.getElem_mem _) ((P.funcs.getD k Zp).blocks.getD b []) (by rw [Gt _ _ _ hb]; exact List.getElem_mem _) (((P.funcs.getD k Zp).blocks.getD b []).getD i Dd) (by rw [Gt _ _ _ hi]; exact List.getElem_mem _);exact⟨h1.1,h1.2,h2,h4,hw.1,hw.2⟩
section
variable {P:Zw} {f:Zy} {i:Zq}
theorem Zfq (h:Zu P f i=true)(ho:i.op≤11∨i.op=15):0≤i.d∧i.d<f.homes.length:=by
 unfold Zu at h;repeat' split at h
 all_goals try (exfalso; omega)
 all_goals (simp only [Bool.and_eq_true,Yq,Gm,decide_eq_true_eq] at h; omega)
theorem Ybq (h:Zu P f i=true)(ho:2≤i.op∧i.op≤9):0≤i.a∧i.a<f.homes.length:=by
 unfold Zu at h;repeat' split at h
 all_goals try (exfalso; omega)
 all_goals (simp only [Bool.and_eq_true,Yq,Gm,decide_eq_true_eq] at h; omega)
theorem Yga (h:Zu P f i=true)(ho:3≤i.op∧i.op≤9):0≤i.bb∧i.bb<f.homes.length:=by
 unfold Zu at h;repeat' split at h
 all_goals try (exfalso; omega)
 all_goals (simp only [Bool.and_eq_true,Yq,Gm,decide_eq_true_eq] at h; omega)
theorem Zdk (h:Zu P f i=true)(ho:i.op=10∨i.op=11):0≤i.a∧i.a<f.slots.length∧(i.n=1∨i.n=2∨i.n=4∨i.n=8)∧0≤i.bb∧i.bb+i.n≤8*f.slots.getD i.a.toNat 0:=by
 unfold Zu at h;repeat' split at h
 all_goals try (exfalso; omega)
 all_goals (simp only [Bool.and_eq_true,Yq,Kg,Kf,Gm,decide_eq_true_eq] at h; refine⟨by omega,by omega,h.2.2.1,by omega,by omega⟩)
theorem Zjp (h:Zu P f i=true)(ho:i.op=14∨i.op=15):0≤i.a∧i.a<f.blocks.length:=by
 unfold Zu at h;repeat' split at h
 all_goals try (exfalso; omega)
 all_goals (simp only [Bool.and_eq_true,Yq,Gm,decide_eq_true_eq] at h; omega)
theorem Zve (h:Zu P f i=true)(ho:i.op=15):0≤i.bb∧i.bb<f.blocks.length:=by
 unfold Zu at h;repeat' split at h
 all_goals try (exfalso; omega)
 all_goals (simp only [Bool.and_eq_true,Yq,Gm,decide_eq_true_eq] at h; omega)
theorem Zox (h:Zu P f i=true)(ho:i.op=16):(i.outs.length:Int)=f.results∧Le f i.outs=true:=by
 unfold Zu at h;simp only [ho] at h;simpa using h
theorem Zvf (h:Zu P f i=true)(ho:i.op=12):0≤i.f∧i.f<P.funcs.length∧Uf f i (Oc (P.funcs.getD i.f.toNat Zp))=true:=by
 unfold Zu at h;simp only [ho] at h;simp only [Int.reduceEq,if_false,or_self,if_true,Bool.and_eq_true,Gm,decide_eq_true_eq] at h;exact⟨h.1.1,by omega,h.2⟩
theorem Zzt (h:Zu P f i=true)(ho:i.op=13):0≤i.f∧i.f<P.externs.length∧Uf f i (P.externs.getD i.f.toNat ([],0))=true:=by
 unfold Zu at h;simp only [ho] at h;simp only [Int.reduceEq,if_false,or_self,if_true,Bool.and_eq_true,Gm,decide_eq_true_eq] at h;exact⟨h.1.1,by omega,h.2⟩
theorem Zvg (h:Zu P f i=true)(ho:i.op=17):0≤i.f∧i.f<P.funcs.length∧Ke f i (Oc (P.funcs.getD i.f.toNat Zp))=true:=by
 unfold Zu at h;simp only [ho] at h;simp only [Int.reduceEq,if_false,or_self,if_true,Bool.and_eq_true,Gm,decide_eq_true_eq] at h;exact⟨h.1.1,by omega,h.2⟩
theorem Ii {l:List Int}(h:Le f l=true):∀ k,k<l.length→0≤l.getD k 0∧l.getD k 0<f.homes.length:=fun k hk=>by
 have:=Dn (Nd h hk);omega
end
structure Uj (P:Zw)(x:Nl):Prop where
 fn:FnG P x.fn
 b0:0≤x.b
 b1:x.b<x.fn.blocks.length
 i0:0≤x.i
 i1:x.i<(x.fn.blocks.getD x.b.toNat []).length
 v:x.v.length=x.fn.homes.length
 s:x.s.map List.length=x.fn.slots.map fun n=>(8*n).toNat
 ok:IOk x
section
variable {P:Zw} {x:Nl}
theorem Uj.slen (h:Uj P x):x.s.length=x.fn.slots.length:=by
 have:=congrArg List.length h.s;simpa using this
theorem Uj.slot (h:Uj P x){k:Nat}(hk:k<x.s.length):(x.s.getD k []).length=(8*x.fn.slots.getD k 0).toNat:=by
 have e:(x.s.map List.length).getD k 0=(x.fn.slots.map fun n=>(8*n).toNat).getD k 0:=by rw [h.s]
 rw [Uc x.s List.length [] 0 k hk,Uc x.fn.slots (fun n=>(8*n).toNat) 0 0 k (by rw [← h.slen]; exact hk)] at e;exact e
theorem Uj.small (h:Uj P x)(hG:Gp P):∀ l ∈ x.s,l.length≤65536:=fun l hl=>by
 obtain⟨k,hk,rfl⟩:=List.getElem_of_mem hl;have e:=h.slot hk;have:=(hG.fnH h.fn).sw k (by rw [← h.slen]; exact hk);rw [Gt x.s [] k hk] at e;omega
theorem Uj.insG (h:Uj P x)(hG:Gp P):Yfz P x.fn (Yg x) (decide (x.i.toNat+1=(x.fn.blocks.getD x.b.toNat []).length)):=by
 have h1:=h.b0;have h2:=h.b1;have h3:=h.i0;have h4:=h.i1;exact hG.insG h.fn (by omega) (by omega)
theorem Uj.next (h:Uj P x)(hG:Gp P)(ho:(Yg x).op<14):Uj P (Yd x):=by
 have hi:=(h.insG hG).lst;have h3:=h.i0;have h4:=h.i1;rw [decide_eq_false (by omega)] at hi;have hi:=of_decide_eq_false hi.symm;exact⟨h.fn,h.b0,h.b1,by show 0≤x.i+1; omega,by show x.i+1<_; unfold Yd; simp only; omega,h.v,h.s,⟨h.ok.v,h.ok.s⟩⟩
theorem Uj.at_ (h:Uj P x)(hG:Gp P){t:Int}(h0:0≤t)(h1:t<x.fn.blocks.length):Uj P { x with b:=t,i:=0 }:=by
 have:=(hG.fnH h.fn).bk t.toNat (by omega);exact⟨h.fn,h0,h1,Int.le_refl 0,by show(0:Int)<(x.fn.blocks.getD t.toNat []).length; omega,h.v,h.s,⟨h.ok.v,h.ok.s⟩⟩
theorem Zdl {l:List Int}{k:Nat}{n m:Int}(h:m ∈ l.set k n):m ∈ l∨m=n:=by
 rcases List.mem_or_eq_of_mem_set h with h | h
 ·
  exact Or.inl h
 ·
  exact Or.inr h
theorem Uj.setV (h:Uj P x)(k:Nat){n:Int}(h0:0≤n)(h1:n<18446744073709551616):Uj P { x with v:=x.v.set k n } :=
 ⟨h.fn,h.b0,h.b1,h.i0,h.i1,by simp [h.v],h.s,⟨fun m hm=>by
  rcases Zdl hm with hm | rfl
  ·
   exact h.ok.v m hm
  ·
   exact⟨h0,h1⟩,h.ok.s⟩⟩
theorem Ch {l:List Int}(h:∀ n ∈ l,0≤n∧n<18446744073709551616)(k:Nat):0≤l.getD k 0∧l.getD k 0<18446744073709551616:=by
 by_cases hk:k<l.length
 ·
  exact h _ (Zdd hk 0)
 ·
  simp [List.getD,hk]
theorem Zvh {bs:List Int}(h:∀ n ∈ bs,0≤n∧n<256)(a k:Nat)(hk:k≤8):0≤ldB bs a k∧ldB bs a k<18446744073709551616:=by
 have:=Znx (m:=fun i=>bs.getD i 0) (Zgp h) k a;have:=Zri k hk;unfold ldB;omega
theorem Uj.bytes (h:Uj P x)(k:Nat):∀ n ∈ x.s.getD k [],0≤n∧n<256:=by
 by_cases hk:k<x.s.length
 ·
  rw [Gt _ _ _ hk]; exact h.ok.s _ (List.getElem_mem _)
 ·
  intro n hn; simp [List.getD,hk] at hn
theorem Zzu {v ds vs:List Int}(hv:∀ n ∈ v,0≤n∧n<18446744073709551616)(hw:∀ n ∈ vs,0≤n∧n<18446744073709551616):∀ n ∈ Ot v ds vs,0≤n∧n<18446744073709551616:=by
 unfold Ot;induction ds generalizing v vs with
 | nil=>simpa using hv
 | cons d ds ih =>
  cases vs with
  | nil=>simpa using hv
  | cons a vs =>
   simp only [List.zip_cons_cons,List.foldl_cons];refine ih (fun n hn=>?_) (fun n hn=>hw n (List.mem_cons_of_mem _ hn));rcases Zdl hn with hn | rfl
   ·
    exact hv n hn
   ·
    exact hw _ List.mem_cons_self
theorem Uj.setVs (h:Uj P x)(ds:List Int){vs:List Int}(hw:∀ n ∈ vs,0≤n∧n<18446744073709551616):Uj P { x with v:=Ot x.v ds vs } :=
 ⟨h.fn,h.b0,h.b1,h.i0,h.i1,by simp [Zjk,h.v],h.s,⟨Zzu h.ok.v hw,h.ok.s⟩⟩
theorem Uj.setS (h:Uj P x){k:Nat}{l:List Int}(hl:l.length=(x.s.getD k []).length)(hb:∀ n ∈ l,0≤n∧n<256):Uj P { x with s:=x.s.set k l } :=
 ⟨h.fn,h.b0,h.b1,h.i0,h.i1,h.v,by show(x.s.set k l).map List.length=_; rw [Zaf _ _ _ hl,h.s],⟨h.ok.v,fun m hm=>by
  rcases List.mem_or_eq_of_mem_set hm with hm | rfl
  ·
   exact h.ok.s m hm
  ·
   exact hb⟩⟩
theorem Zvi (n:Int):0≤IntKind.u64.wrap n∧IntKind.u64.wrap n<18446744073709551616:=by
 have:IntKind.u64.wrap n=n % 18446744073709551616:=by simp [IntKind.wrap,IntKind.bits,IntKind.signed]
 omega
theorem Zzv (op a b:Int):0≤Zbe op a b∧Zbe op a b<18446744073709551616:=by
 unfold Zbe;repeat' split
 all_goals first | exact Zvi _ | omega
theorem Uj.loc (h:Uj P x)(hG:Gp P)(h16:(Yg x).op<16):Uj P (Sb (Yd x) (Yg x)):=by
 have g:=h.insG hG;have hv:=h.ok.v;generalize hi:Yg x=i at g h16 ⊢;by_cases hj:i.op<14
 ·
  have hn:=h.next hG (by rw [hi]; exact hj);unfold Sb;repeat' split
  all_goals try (exfalso; omega)
  ·
   exact hn.setV _ g.n0 g.n1
  ·
   exact hn.setV _ (Ch hv _).1 (Ch hv _).2
  ·
   rename_i h10;have hs:=(Zdk g.fld (Or.inl h10)).2.2.1;have:=Zvh (h.bytes i.a.toNat) i.bb.toNat i.n.toNat (by omega);exact hn.setV _ this.1 this.2
  ·
   exact hn.setS (by rw [Zgq]) (Zvd (h.bytes i.a.toNat) _ _ _)
  ·
   have:=Zzv i.op (x.v.getD i.a.toNat 0) (x.v.getD i.bb.toNat 0);exact hn.setV _ this.1 this.2
 ·
  rcases(show i.op=14∨i.op=15 by omega) with h14 | h15
  ·
   have:=Zjp g.fld (Or.inl h14);rw [show Sb (Yd x) i={ x with b:=i.a,i:=0 } by unfold Sb; simp [h14,Yd]];exact(h.at_ hG this.1 this.2)
  ·
   have:=Zjp g.fld (Or.inr h15);have:=Zve g.fld h15;rw [show Sb (Yd x) i={ x with b:=if x.v.getD i.d.toNat 0=0 then i.bb else i.a,i:=0 } by unfold Sb; simp [h15,Yd]];exact(h.at_ hG (t:=if x.v.getD i.d.toNat 0=0 then i.bb else i.a) (by split <;> omega) (by split <;> omega))
theorem Zvj (x:Nl)(a:Int×Int):(Zgv x a).length=if a.1=0 then 1 else a.1.toNat:=by
 unfold Zgv;split <;> simp
theorem Ij (x:Nl):∀ l:List (Int×Int),(Xw x l).length=Mr l
 | []=>rfl
 | a :: l=>by
  show(Zgv x a++Xw x l).length=(if a.1=0 then 1 else a.1.toNat)+Mr l;rw [List.length_append,Zvj,Ij x l]
theorem Zbf:∀{l m:List (Int×Int)},l.map (·.1)=m.map (·.1)→Mr l=Mr m
 | [],[],_=>rfl
 | [],_ :: _,h=>by simp at h
 | _ :: _,[],h=>by simp at h
 | a :: l,b :: m,h=>by
  simp only [List.map_cons,List.cons.injEq] at h;show(if a.1=0 then 1 else a.1.toNat)+Mr l=(if b.1=0 then 1 else b.1.toNat)+Mr m;rw [h.1,Zbf h.2]
theorem Zag (hok:IOk x)(l:List (Int×Int)):∀ n ∈ Xw x l,0≤n∧n<18446744073709551616:=fun n hn=>by
 obtain⟨a,-,ha⟩:=List.mem_flatMap.1 hn;unfold Zgv at ha;split at ha
 ·
  rw [List.mem_singleton.1 ha]; exact Ch hok.v _
 ·
  obtain⟨k,-,rfl⟩:=List.mem_map.1 ha;refine Zvh ?_ _ _ (Nat.le_refl _);by_cases hk:a.2.toNat<x.s.length
  ·
   rw [Gt _ _ _ hk]; exact hok.s _ (List.getElem_mem _)
  ·
   intro n hn; simp [List.getD,hk] at hn
theorem Zvk (hok:IOk x)(l:List Int):∀ n ∈ Ll x.v l,0≤n∧n<18446744073709551616:=fun n hn=>by
 obtain⟨k,-,rfl⟩:=List.mem_map.1 hn;exact Ch hok.v _
theorem Zoy {f:Zy}(hv:x.v.length=f.homes.length)(hs:x.s.map List.length=f.slots.map fun n=>(8*n).toNat){a:Int×Int}(h:Mo f a=true)(h0:0≤a.1)(h8:a.1≤8):Zbx x a:=by
 unfold Mo at h;have hsl:x.s.length=f.slots.length:=by have:=congrArg List.length hs; simpa using this
 split at h
 ·
  rename_i hz;have:=Dn h;exact⟨h0,h8,by omega,fun _=>by omega,fun hn=>absurd hz hn⟩
 ·
  rename_i hz;simp only [Bool.and_eq_true,decide_eq_true_eq] at h;have h1:=Dn h.1;have h2:=h.2;refine⟨h0,h8,h1.1,fun hn=>absurd hn hz,fun _=>⟨by omega,?_⟩⟩;have hk:a.2.toNat<x.s.length:=by omega
  have e:(x.s.map List.length).getD a.2.toNat 0=(f.slots.map fun n=>(8*n).toNat).getD a.2.toNat 0:=by rw [hs]
  rw [Uc x.s List.length [] 0 _ hk,Uc f.slots (fun n=>(8*n).toNat) 0 0 _ (by omega),h2] at e;omega
theorem Zdm {f:Zy}{gs:List (Int×Int)}{ps:List Int}(h:Dz f gs ps=true):gs.map (·.1)=ps∧∀ k,k<gs.length→Mo f (gs.getD k (0,0))=true:=by
 unfold Dz at h;simp only [Bool.and_eq_true,decide_eq_true_eq] at h;obtain⟨h1,h2⟩:=h;have hq:∀ k,k<gs.length→(gs.getD k (0,0)).1=ps.getD k 0∧Mo f (gs.getD k (0,0))=true:=fun k hk=>by
  have:=Nd h2 hk;simpa using this
 refine⟨List.ext_getElem (by simpa using h1) fun k hk1 hk2=>?_,fun k hk=>(hq k hk).2⟩;have hk:k<gs.length:=by simpa using hk1
 have:=(hq k hk).1;rw [Gt gs _ k hk,Gt ps _ k hk2] at this;simpa using this
theorem Zgw {gs:List (Int×Int)}{ps:List Int}(h:Uj P x)(ha:Dz x.fn gs ps=true)(hp:∀ k,k<ps.length→0≤ps.getD k 0∧ps.getD k 0≤8)(hl:ps.length≤8):gs.length≤8∧∀ k,k<gs.length→Zbx x (gs.getD k (0,0)):=by
 obtain⟨h1,h2⟩:=Zdm ha;have hgl:gs.length=ps.length:=by rw [← h1]; simp
 refine⟨by omega,fun k hk=>?_⟩;have:=hp k (by omega);rw [← h1,Uc gs (·.1) (0,0) 0 k hk] at this;exact Zoy h.v h.s (h2 k hk) this.1 this.2
theorem Zmy {f:Zy}(hH:FnH f):(∀ k,k<(Oc f).1.length→0≤(Oc f).1.getD k 0∧(Oc f).1.getD k 0≤8)∧(Oc f).1.length≤8:=by
 unfold Oc;refine⟨fun k hk=>?_,by simpa using hH.pl⟩;have hk':k<f.params.length:=by simpa using hk
 simp only;rw [Uc f.params (·.1) (0,0) 0 k hk'];exact⟨(hH.pw k hk').1,(hH.pw k hk').2.1⟩
theorem Zdn:∀(l:List (Int×Int)) (v:List Int) (s:List (List Int)) (ws:List Int),(Ks l v s ws).1.length=v.length∧(Ks l v s ws).2.map List.length=s.map List.length
 | [],v,s,ws=>⟨rfl,rfl⟩
 | p :: r,v,s,ws=>by
  unfold Ks;split
  ·
   have:=Zdn r (v.set p.2.toNat (ws.getD 0 0)) s (ws.drop 1);simpa using this
  ·
   have:=Zdn r v (s.set p.2.toNat (Zby (s.getD p.2.toNat []) (ws.take p.1.toNat))) (ws.drop p.1.toNat);exact⟨this.1,this.2.trans (Zaf _ _ _ (Zbd _ _))⟩
theorem Zgx:∀(l:List (Int×Int)) (v:List Int) (s:List (List Int)) (ws:List Int),(∀ n ∈ v,0≤n∧n<18446744073709551616)→(∀ l ∈ s,∀ n ∈ l,0≤n∧n<256)→(∀ n ∈ ws,0≤n∧n<18446744073709551616)→(∀ n ∈ (Ks l v s ws).1,0≤n∧n<18446744073709551616)∧∀ z ∈ (Ks l v s ws).2,∀ n ∈ z,0≤n∧n<256
 | [],v,s,ws,hv,hs,_=>⟨hv,hs⟩
 | p :: r,v,s,ws,hv,hs,hw=>by
  unfold Ks;split
  ·
   refine Zgx r _ s _ (fun n hn=>?_) hs (fun n hn=>hw n (List.mem_of_mem_drop hn));rcases Zdl hn with hn | rfl
   ·
    exact hv n hn
   ·
    exact Ch hw 0
  ·
   refine Zgx r v _ _ hv (fun l hl=>?_) (fun n hn=>hw n (List.mem_of_mem_drop hn));rcases List.mem_or_eq_of_mem_set hl with hl | rfl
   ·
    exact hs l hl
   ·
    refine Zjo ?_ _;by_cases hk:p.2.toNat<s.length
    ·
     rw [Gt _ _ _ hk]; exact hs _ (List.getElem_mem _)
    ·
     intro n hn; simp [List.getD,hk] at hn
theorem Zmz (hG:Gp P){f:Zy}(hf:FnG P f){ws:List Int}(hw:∀ n ∈ ws,0≤n∧n<18446744073709551616)(o:List Int):Uj P (Ka f ws o):=by
 have hH:=hG.fnH hf;have h1:=hH.b1;have h2:=hH.bk 0 (by omega);have hl:=Zdn f.params (List.replicate f.homes.length 0) (f.slots.map fun n=>List.replicate (8*n).toNat 0) ws;have hb:=Zgx f.params (List.replicate f.homes.length 0) (f.slots.map fun n=>List.replicate (8*n).toNat 0) ws (fun n hn=>by rw [List.eq_of_mem_replicate hn]; omega) (fun l hl n hn=>by
  obtain⟨k,-,rfl⟩:=List.mem_map.1 hl;rw [List.eq_of_mem_replicate hn]; omega) hw
 exact⟨hf,Int.le_refl 0,by show(0:Int)<f.blocks.length; omega,Int.le_refl 0,by show(0:Int)<(f.blocks.getD 0 []).length; omega,by show(Ks _ _ _ _).1.length=f.homes.length; rw [hl.1]; simp,by show(Ks _ _ _ _).2.map List.length=f.slots.map _; rw [hl.2]; simp [List.map_map,Function.comp_def],⟨hb.1,hb.2⟩⟩
theorem Ydz {f:Zy}(hH:FnH f):∀ k,k<f.params.length→Zvc (List.replicate f.homes.length 0) (f.slots.map fun n=>List.replicate (8*n).toNat 0) (f.params.getD k (0,0)):=fun k hk=>by
 obtain⟨h0,h8,hs⟩:=hH.pw k hk;have:=Zoy (x:=⟨f,0,0,List.replicate f.homes.length 0,f.slots.map fun n=>List.replicate (8*n).toNat 0,[]⟩) (by simp) (by simp) hs h0 h8;exact⟨h0,h8,this.f0,this.v,this.s⟩
theorem Zvl {sc:List Int}(h:∀ n ∈ sc,0≤n∧n<18446744073709551616)(n:Nat):∀ m ∈ Lm sc n,0≤m∧m<18446744073709551616:=fun m hm=>by
 obtain⟨k,-,rfl⟩:=List.mem_map.1 hm;exact Ch h _
end
def Ik:Type:=(List Nl×List Int×List (Int×List Int)) ⊕ ((List Int×List Int×List (Int×List Int)) ⊕ (Int×List Int×List (Int×List Int)))
abbrev Ik.go (st:List Nl)(sc:List Int)(tr:List (Int×List Int)):Ik:=.inl (st,sc,tr)
abbrev Ik.done (l:List Int)(sc:List Int)(tr:List (Int×List Int)):Ik:=.inr (.inl (l,sc,tr))
abbrev Ik.trap (c:Int)(sc:List Int)(tr:List (Int×List Int)):Ik:=.inr (.inr (c,sc,tr))
theorem Ik.el {motive:Ik→Prop}(r:Ik)(go:∀ st sc tr,motive (.go st sc tr))(done:∀ l sc tr,motive (.done l sc tr))(trap:∀ c sc tr,motive (.trap c sc tr)):motive r :=
 match r with
 | .inl (st,sc,tr)=>go st sc tr
 | .inr (.inl (l,sc,tr))=>done l sc tr
 | .inr (.inr (c,sc,tr))=>trap c sc tr
theorem Ik.go_inj {a a':List Nl}{b b':List Int}{c c':List (Int×List Int)}(h:Ik.go a b c=Ik.go a' b' c'):a=a'∧b=b'∧c=c':=by
 injection h with h;injection h with h1 h;injection h with h2 h3;exact⟨h1,h2,h3⟩
def stp (P:Zw)(x:Nl)(R:List Nl)(sc:List Int)(tr:List (Int×List Int)):Ik :=
 if (Yg x).op=12 then .go (Zdj P (Yd x) (Yg x) (Yg x).outs :: Yd x :: R) sc tr
 else if (Yg x).op=13 then .go ({ Yd x with v:=Ot x.v (Yg x).outs (Lm sc (Yg x).outs.length) } :: R) (sc.drop (Yg x).outs.length) (tr++[((Yg x).f,Xw x (Yg x).args)])
 else if (Yg x).op=16 then
  match R with
  | []=>.done (Ll x.v (Yg x).outs) sc tr
  | c :: R'=>.go ({ c with v:=Ot c.v x.o (Ll x.v (Yg x).outs) } :: R') sc tr
 else if (Yg x).op=17 then .go (Zdj P (Yd x) (Yg x) x.o :: R) sc tr
 else if (Yg x).op=18 then .trap (Yg x).n sc tr
 else .go (Sb (Yd x) (Yg x) :: R) sc tr
def Ik.run (P:Zw)(n:Nat):Ik→Ss
 | .inl (st,sc,tr)=>ev P n st sc tr
 | .inr (.inl (l,sc,tr))=>.done l n sc tr
 | .inr (.inr (c,sc,tr))=>.trap c n sc tr
theorem Yea (P:Zw)(n:Nat)(x:Nl)(R:List Nl)(sc:List Int)(tr:List (Int×List Int)):ev P (n+1) (x :: R) sc tr=(stp P x R sc tr).run P n:=by
 conv=>lhs; unfold ev
 unfold stp;by_cases h12:(Yg x).op=12
 ·
  rw [if_pos h12,if_pos h12]; rfl
 rw [if_neg h12,if_neg h12];by_cases h13:(Yg x).op=13
 ·
  rw [if_pos h13,if_pos h13]; rfl
 rw [if_neg h13,if_neg h13];by_cases h16:(Yg x).op=16
 ·
  rw [if_pos h16,if_pos h16];cases R <;> rfl
 rw [if_neg h16,if_neg h16];by_cases h17:(Yg x).op=17
 ·
  rw [if_pos h17,if_pos h17]; rfl
 rw [if_neg h17,if_neg h17];by_cases h18:(Yg x).op=18
 ·
  rw [if_pos h18,if_pos h18]; rfl
 rw [if_neg h18,if_neg h18];rfl
def WfS (P:Zw):List Nl→Prop
 | []=>False
 | [x]=>Uj P x∧x.o=[]
 | x :: c :: R=>Uj P x∧(x.o.length:Int)=x.fn.results∧(∀ k,k<x.o.length→0≤x.o.getD k 0∧x.o.getD k 0<c.v.length)∧WfS P (c :: R)
section
variable {P:Zw} {x y:Nl} {R:List Nl}
theorem WfS.top (h:WfS P (x :: R)):Uj P x:=by
 cases R with
 | nil=>exact h.1
 | cons c R=>exact h.1
theorem WfS.swap (h:WfS P (x :: R))(hy:Uj P y)(ho:y.o=x.o)(hr:y.fn.results=x.fn.results):WfS P (y :: R):=by
 cases R with
 | nil=>exact⟨hy,ho.trans h.2⟩
 | cons c R=>exact⟨hy,by rw [ho,hr]; exact h.2.1,by rw [ho]; exact h.2.2.1,h.2.2.2⟩
theorem Zzw (y:Nl)(i:Zq):(Sb y i).fn=y.fn:=by
 unfold Sb;repeat' split
 all_goals rfl
theorem Zoz (hG:Gp P)(h:Uj P x)(h12:(Yg x).op=12):FnG P (P.funcs.getD (Yg x).f.toNat Zp)∧((Yg x).outs.length:Int)=(P.funcs.getD (Yg x).f.toNat Zp).results∧(∀ k,k<(Yg x).outs.length→0≤(Yg x).outs.getD k 0∧(Yg x).outs.getD k 0<x.v.length)∧(Yg x).args.map (·.1)=(P.funcs.getD (Yg x).f.toNat Zp).params.map (·.1)∧(Yg x).args.length≤8∧(∀ k,k<(Yg x).args.length→Zbx x ((Yg x).args.getD k (0,0)))∧0≤(Yg x).f∧(Yg x).f<P.funcs.length:=by
 obtain⟨h0,h1,h2⟩:=Zvf (h.insG hG).fld h12;have hf:FnG P (P.funcs.getD (Yg x).f.toNat Zp):=⟨_,by omega,rfl⟩;unfold Uf at h2;simp only [Bool.and_eq_true,decide_eq_true_eq] at h2;obtain⟨ha,ho,hl,-⟩:=h2;obtain⟨hs1,hs2⟩:=Zmy (hG.fnH hf);have hk:=Zgw h ha hs1 hs2;exact⟨hf,ho,by rw [h.v]; exact Ii hl,(Zdm ha).1,hk.1,hk.2,h0,h1⟩
theorem Yeb (hG:Gp P)(h:Uj P x)(h13:(Yg x).op=13):(∀ k,k<(Yg x).outs.length→0≤(Yg x).outs.getD k 0∧(Yg x).outs.getD k 0<x.v.length)∧(Yg x).outs.length≤4∧(Yg x).args.length≤8∧(∀ k,k<(Yg x).args.length→Zbx x ((Yg x).args.getD k (0,0))):=by
 obtain⟨h0,h1,h2⟩:=Zzt (h.insG hG).fld h13;unfold Uf at h2;simp only [Bool.and_eq_true,decide_eq_true_eq] at h2;obtain⟨ha,ho,hl,-⟩:=h2;have hc:=hG.cnt;unfold Ld at hc;simp only [Bool.and_eq_true] at hc;have hs:=Nd hc.2.2 (k:=(Yg x).f.toNat) (by omega);unfold Rn at hs;simp only [Bool.and_eq_true,decide_eq_true_eq] at hs;have hr:=Dn hs.2.1;have hk:=Zgw h ha (fun k hk=>Dn (Nd hs.2.2 hk)) hs.1;exact⟨by rw [h.v]; exact Ii hl,by omega,hk.1,hk.2⟩
theorem Zvm (hG:Gp P)(h:Uj P x)(h16:(Yg x).op=16):((Yg x).outs.length:Int)=x.fn.results∧(Yg x).outs.length≤4∧∀ k,k<(Yg x).outs.length→0≤(Yg x).outs.getD k 0∧(Yg x).outs.getD k 0<x.v.length:=by
 obtain⟨h1,h2⟩:=Zox (h.insG hG).fld h16;have:=(hG.fnH h.fn).r1;exact⟨h1,by omega,by rw [h.v]; exact Ii h2⟩
theorem Zpa (hG:Gp P)(h:Uj P x)(h17:(Yg x).op=17):FnG P (P.funcs.getD (Yg x).f.toNat Zp)∧(P.funcs.getD (Yg x).f.toNat Zp).results=x.fn.results∧(Yg x).args.map (·.1)=(P.funcs.getD (Yg x).f.toNat Zp).params.map (·.1)∧(Yg x).args.length≤8∧(∀ k,k<(Yg x).args.length→Zbx x ((Yg x).args.getD k (0,0)))∧0≤(Yg x).f∧(Yg x).f<P.funcs.length:=by
 obtain⟨h0,h1,h2⟩:=Zvg (h.insG hG).fld h17;have hf:FnG P (P.funcs.getD (Yg x).f.toNat Zp):=⟨_,by omega,rfl⟩;unfold Ke at h2;simp only [Bool.and_eq_true,decide_eq_true_eq] at h2;obtain⟨ha,ho⟩:=h2;obtain⟨hs1,hs2⟩:=Zmy (hG.fnH hf);have hk:=Zgw h ha hs1 hs2;exact⟨hf,ho,(Zdm ha).1,hk.1,hk.2,h0,h1⟩
theorem Yec (hG:Gp P)(h:WfS P (x :: R)){sc:List Int}(hsc:∀ n ∈ sc,0≤n∧n<18446744073709551616)(tr:List (Int×List Int)):∀{st sc' tr'},stp P x R sc tr=.go st sc' tr'→WfS P st∧∀ n ∈ sc',0≤n∧n<18446744073709551616:=by
 intro st sc' tr' he;have hx:=h.top;unfold stp at he;by_cases h12:(Yg x).op=12
 ·
  rw [if_pos h12] at he;obtain⟨e1,e2,e3⟩:=Ik.go_inj he;subst e1 e2;obtain⟨hf,ho,hl,-⟩:=Zoz hG hx h12;refine⟨⟨Zmz hG hf (Zag ⟨hx.ok.v,hx.ok.s⟩ _) _,ho,hl,h.swap (hx.next hG (by omega)) rfl rfl⟩,hsc⟩
 rw [if_neg h12] at he;by_cases h13:(Yg x).op=13
 ·
  rw [if_pos h13] at he;obtain⟨e1,e2,e3⟩:=Ik.go_inj he;subst e1 e2;exact⟨h.swap ((hx.next hG (by omega)).setVs _ (Zvl hsc _)) rfl rfl,fun n hn=>hsc n (List.mem_of_mem_drop hn)⟩
 rw [if_neg h13] at he;by_cases h16:(Yg x).op=16
 ·
  rw [if_pos h16] at he;cases R with
  | nil=>cases he
  | cons c R' =>
   obtain⟨e1,e2,e3⟩:=Ik.go_inj he;subst e1 e2;exact⟨h.2.2.2.swap (h.2.2.2.top.setVs _ (Zvk hx.ok _)) rfl rfl,hsc⟩
 rw [if_neg h16] at he;by_cases h17:(Yg x).op=17
 ·
  rw [if_pos h17] at he;obtain⟨e1,e2,e3⟩:=Ik.go_inj he;subst e1 e2;obtain⟨hf,hr,-⟩:=Zpa hG hx h17;exact⟨h.swap (Zmz hG hf (Zag ⟨hx.ok.v,hx.ok.s⟩ _) _) rfl hr,hsc⟩
 rw [if_neg h17] at he;by_cases h18:(Yg x).op=18
 ·
  rw [if_pos h18] at he;cases he
 rw [if_neg h18] at he;obtain⟨e1,e2,e3⟩:=Ik.go_inj he;subst e1 e2;have:=(hx.insG hG).op1;exact⟨h.swap (hx.loc hG (by omega)) (Ydx _ _) (by rw [Zzw]; rfl),hsc⟩
end
theorem Zzs {g j:Nat}{w U:World}{v:Value}(h:Below w.heap.size w U)(hz:U.heap.size=w.heap.size):One g w (U.setCell ⟨g,j,none⟩ v):=⟨h.os,h.tape,h.output,by simpa using hz,fun q hq=>(heap_setCell_other _ _ _ _ hq).trans (by
 by_cases hl:q<w.heap.size
 ·
  exact h.block q hl
 ·
  rw [Array.getElem?_eq_none (by omega),Array.getElem?_eq_none (by omega)])⟩
theorem Kt {w:World}{B B' e size n:Nat}{v:Value}{xs:List Value}(h:w.ownsRow B e size v n xs)(hB:B'≤B):w.ownsRow B' e size v n xs:=by
 refine⟨h.1,?_⟩;rcases h.2 with hn | ⟨g,cap,cur,hv,hb,rest⟩
 ·
  exact .inl hn
 ·
  exact .inr ⟨g,cap,cur,hv,Nat.le_trans hB hb,rest⟩
theorem Zna {P:Program}(w:World)(base:Nat)(t ty e:TypeId)(i:TypeInfo)(z:Value)(size bytes:Nat)(ht:P.underlying t=some (.slice e))(hi:P.info? e=some i)(hz:i.zero=some z)
 (hsize:i.size=size) (hby:i.bytes=bytes) (hzs:z.cells.size=size) (hsz:0<size)
 (v:Value) (n:Nat) (xs:List Value) (hown:w.ownsRow base e size v n xs)
 (a:Addr) (m c:Nat) (news:List Value) (hl:news.length=m*size) (hnews:∀ j u,news[j]?=some u→w.cell? (a.add j)=some u) (h1:∀ u ∈ news,u.oneCell'=true)
 (h63:n+m≤maxLen) (hbytes:(n+m)*bytes≤140737488355328) (hbase:base≤w.heap.size) :
 ∃ v' w',(Builtin.append_ #[t,t] ty #[v,.slice (some a) m c]).run P w=.ok v' w'∧w'.ownsRow base e size v' (n+m) (xs++news)∧w.grownBy w' v.ownBlock∧∀ g,v'.ownBlock=some g→v.ownBlock=some g∨w.heap.size≤g:=by
 obtain⟨v',w',hr,h2,h3,-⟩:=run_append_own (P:=P) w base t ty e i z size bytes ht hi hz hsize hby hzs hsz v n xs hown a m c news hl hnews h1 h63 hbytes hbase;refine⟨v',w',hr,h2,h3,fun g hg=>?_⟩;rcases hown.2 with⟨rfl,rfl⟩ | ⟨g0,cap,cur,rfl,hbg,hg0,hnc,hcm,hcs,htake⟩
 ·
  have hx:xs=[]:=List.eq_nil_of_length_eq_zero (by simpa using hown.1);subst hx;obtain⟨v2,w2,hr2,o2,-,-⟩:=run_append_own (P:=P) w w.heap.size t ty e i z size bytes ht hi hz hsize hby hzs hsz _ 0 [] (World.ownsRow_nil _ _ _ _) a m c news hl hnews h1 h63 hbytes (Nat.le_refl _);rw [hr] at hr2;injection hr2 with e1 e2;subst e1 e2;exact Or.inr (o2.lt g hg).1
 ·
  subst hsize;subst hby;by_cases hroom:n+m≤cap
  ·
   have hfit:n*i.size+news.length≤cur.size:=by rw [hl,hcs,← Nat.add_mul]; exact Nat.mul_le_mul_right _ hroom
   have hr2:=run_append_room (P:=P) w t ty e i ht hi g0 n cap cur hg0 a m c news hl hnews h1 hroom hfit;rw [hr] at hr2;injection hr2 with e1 e2;subst e1;exact Or.inl hg
  ·
   have holds:∀ j u,xs[j]?=some u→w.cell? ((⟨g0,0,none⟩:Addr).add j)=some u:=hown.cells (g:=g0) rfl;have hr2:=run_append_grow (P:=P) w t ty e i z ht hi hz ⟨g0,0,none⟩ n cap xs hown.1 holds a m c news hl hnews (by omega) (by simp only [maxLen] at h63; omega) (growslice_fits (by omega) hbytes);rw [hr] at hr2;injection hr2 with e1 e2;subst e1;injection hg with hg;exact Or.inr (Nat.le_of_eq hg)
theorem Zjq {P:Program}{ops:Array Oper}{o:Oper}{a:Act}{w:World}{K:Act→World→Prop}{Q:Exit→Act→World→Prop}{E:Prop}
 (hg:o.guard=none) (s x:Operand) (t:TypeId) (ho:o.op=.call { callee:=.builtin .append,args:=#[s,x],argTypes:=#[t,t] })
 (base:Nat) (e:TypeId) (i:TypeInfo) (z:Value) (size bytes:Nat) (ht:P.underlying t=some (.slice e)) (hi:P.info? e=some i) (hz:i.zero=some z)
 (hsize:i.size=size) (hby:i.bytes=bytes) (hzs:z.cells.size=size) (hsz:0<size)
 (v:Value) (n:Nat) (xs:List Value) (hs:a.eval s=v) (hown:w.ownsRow base e size v n xs)
 (ad:Addr) (m c:Nat) (news:List Value) (hx:a.eval x=.slice (some ad) m c) (hl:news.length=m*size) (hnews:∀ j u,news[j]?=some u→w.cell? (ad.add j)=some u) (h1:∀ u ∈ news,u.oneCell'=true)
 (h63:n+m≤maxLen) (hbytes:(n+m)*bytes≤140737488355328) (hbase:base≤w.heap.size)
 (h:∀ v' w',w'.ownsRow base e size v' (n+m) (xs++news)→w.grownBy w' v.ownBlock→(∀ g,v'.ownBlock=some g→v.ownBlock=some g∨w.heap.size≤g)→K (a.put o.dst v') w') :
 if Region.wanted o (yielded ops a.tmps)=true then Oper.wp P o a w K Q else E:=by
 have hw:Region.wanted o (yielded ops a.tmps)=true:=by simp [Region.wanted,hg]
 rw [if_pos hw];obtain⟨v',w',hr,h2,h3,h4⟩:=Zna (P:=P) w base t o.type e i z size bytes ht hi hz hsize hby hzs hsz v n xs hown ad m c news hl hnews h1 h63 hbytes hbase;unfold Oper.wp execOp;simp only [ho,resolve,invoke,builtin,Sem.run_bind,Sem.run_pure,Result.andThen_ok,List.map_toArray,List.map_cons,List.map_nil,hs,hx,hr];exact h v' w' h2 h3 h4
theorem Zzx {P:Program}{ops:Array Oper}{Q:Exit→Act→World→Prop}{md:Region.Mode}{C:World→Prop}{d:Nat}{i:Nat}{oi od:Oper}{v:Value}{n:Nat}{L:Array Bool}{a:Act}{w:World}(hi:ops[i]?=some oi)(hd:ops[d]?=some od)
 (hk:((od.after.any fun e=>Region.binds md e&&e.on==i)&&(Region.noSelect ops&&(Region.free md ops L i&&((Region.ready md ops L).contains i&&!(L.getD d true)))))=true)
 (hQ:∀ c a w,Q (.panic c) (a.put oi.dst v) w→Q (.panic c) a w) (hy:YieldsIf P ops C oi v a) (hC:C w)
 (h:Cm P md ops Q C d n (L.setIfInBounds i true) (a.put oi.dst v) w):Cm P md ops Q C d (n+1) L a w:=by
 simp only [Bool.and_eq_true,Bool.not_eq_true'] at hk;exact Nw hi hd hk.1 hk.2.1 hk.2.2.1 hk.2.2.2.1 hk.2.2.2.2 hQ hy hC h
structure Us where
 x:Nl
 q:Nat
 lo:Nat
 hi:Nat
 lg:Nat
 bp:Option Addr
 sp:Option Addr
 op:Option Addr
 bc:Nat
 sc:Nat
 oc:Nat
 gs:List Nat
 B:Nat→Value
def Us.At (w0 V:World)(f:Us):Prop:=Na w0 V f.x f.q f.lo f.hi f.lg f.bp f.sp f.op f.bc f.sc f.oc f.gs f.B
def Zjr (st:List Us)(g:Nat):Prop:=∀ f ∈ st,g<f.lo∨f.hi≤g
def Dx (st:List Us):List Value:=st.reverse.map fun f=>.pointer (some ⟨f.q,0,none⟩)
def evC (fs:List Int)(es:List Value):List Value:=(fs.zip es).flatMap fun e=>[.int .i64 e.1,e.2]
structure TrI (V:World)(b:Nat)(N:Nat→Prop)(tv:Value)(tr:List (Int×List Int))(es:List Value):Prop where
 len:es.length=tr.length
 row:V.ownsRow b 363 2 tv tr.length (evC (tr.map (·.1)) es)
 out:∀ g,tv.ownBlock=some g→N g
 each:∀ k,k<tr.length→V.ownsRow b 50 1 (es.getD k .nilIface) (tr.getD k (0,[])).2.length (uC (tr.getD k (0,[])).2)∧∀ g,(es.getD k .nilIface).ownBlock=some g→N g
theorem Dp {w:World}{B e size n g:Nat}{v:Value}{xs:List Value}(h:w.ownsRow B e size v n xs)(hg:v.ownBlock=some g):∃ cs,w.heap[g]?=some (.cells cs e (0,0)):=by
 rcases h.2 with⟨rfl,-⟩ | ⟨g',cap,cur,rfl,-,hr,-⟩
 ·
  cases hg
 ·
  injection hg with hg;subst hg;exact⟨cur,hr⟩
theorem TrI.keep {V V':World}{b:Nat}{N N':Nat→Prop}{tv:Value}{tr:List (Int×List Int)}{es:List Value}(h:TrI V b N tv tr es)(hk:∀ g cs t,V.heap[g]?=some (.cells cs t (0,0))→t=363∨t=50→b≤g→N g→V'.heap[g]?=V.heap[g]?)(hN:∀ g,b≤g→g<V.heap.size→N g→N' g):TrI V' b N' tv tr es:=by
 refine⟨h.len,Lb h.row fun g hg=>?_,fun g hg=>hN g (h.row.lt g hg).1 (h.row.lt g hg).2 (h.out g hg),fun k hkk=>⟨Lb (h.each k hkk).1 fun g hg=>?_,fun g hg=>hN g ((h.each k hkk).1.lt g hg).1 ((h.each k hkk).1.lt g hg).2 ((h.each k hkk).2 g hg)⟩⟩
 ·
  obtain⟨cs,hr⟩:=Dp h.row hg;exact hk g cs _ hr (Or.inl rfl) (h.row.lt g hg).1 (h.out g hg)
 ·
  obtain⟨cs,hr⟩:=Dp (h.each k hkk).1 hg;exact hk g cs _ hr (Or.inr rfl) ((h.each k hkk).1.lt g hg).1 ((h.each k hkk).2 g hg)
def Ybr (rb:Nat)(t0:TypeId)(w w':World):Prop:=∀ g cs t,w.heap[g]?=some (.cells cs t (0,0))→t≠t0→g≠rb→w'.heap[g]?=w.heap[g]?
def Ni (V:World)(rb:Nat)(fv scv frv:Value)(kind:Int)(vv tv:Value)(steps:Int):Prop:=V.heap[rb]?=some (.cells #[fv,scv,frv,.int .i64 kind,vv,.int .i64 0,tv,.int .i64 steps,.int .i64 0] 182 (0,0))
structure Ja (w0 V:World)(rb b:Nat)(st:List Us)(frv tv:Value)(tr:List (Int×List Int))(es:List Value):Prop where
 low:Below w0.heap.size w0 V
 w0b:w0.heap.size≤b
 rbb:b≤rb
 stk:∀ f ∈ st,f.At w0 V∧rb<f.lo
 ord:st.Pairwise fun u l=>l.hi≤u.lo
 fr:V.ownsRow b 237 1 frv st.length (Dx st)
 fro:∀ g,frv.ownBlock=some g→Zjr st g
 tr:TrI V b (fun g=>Zjr st g∧g≠rb) tv tr es
section
variable {w0 V V':World} {rb b:Nat} {st R:List Us} {f:Us} {frv tv:Value} {tr:List (Int×List Int)} {es:List Value}
theorem Ja.grow (h:Ja w0 V rb b st frv tv tr es)(hb:Below V.heap.size V V'):Ja w0 V' rb b st frv tv tr es :=
 ⟨Zd h.low hb h.low.size,h.w0b,h.rbb,fun f hf=>⟨Yv (h.stk f hf).1 hb,(h.stk f hf).2⟩,h.ord,Lb h.fr fun g hg=>hb.block g (h.fr.lt g hg).2,h.fro,h.tr.keep (fun g _ _ hr _ _ _=>hb.block g (Zk hr)) (fun _ _ _ h=>h)⟩
theorem Ja.pair (h:Ja w0 V rb b (f :: R) frv tv tr es):∀ u ∈ R,u.hi≤f.lo:=(List.pairwise_cons.1 h.ord).1
theorem Ja.top (h:Ja w0 V rb b (f :: R) frv tv tr es){x:Nl}(hF:Na w0 V' x f.q f.lo f.hi f.lg f.bp f.sp f.op f.bc f.sc f.oc f.gs f.B)(hO:OnB f.lo f.hi V V'):Ja w0 V' rb b ({ f with x:=x } :: R) frv tv tr es:=by
 have hz:=h.low.size;have hw:=h.w0b;have hr:=h.rbb;have hrl:=(h.stk f List.mem_cons_self).2;have hout:∀ g,Zjr (f :: R) g↔Zjr ({ f with x:=x } :: R) g:=fun g=>by
  unfold Zjr;simp only [List.forall_mem_cons]
 refine⟨⟨hO.os.trans h.low.os,hO.tape.trans h.low.tape,hO.output.trans h.low.output,Nat.le_trans hz hO.size,fun k hk=>(hO.oth k (by omega) (Or.inl (by omega))).trans (h.low.block k hk)⟩,hw,hr,fun u hu=>?_,List.pairwise_cons.2 ⟨h.pair,(List.pairwise_cons.1 h.ord).2⟩,Lb (by simpa [Dx] using h.fr) fun g hg=>hO.oth g (h.fr.lt g hg).2 (h.fro g hg f List.mem_cons_self),fun g hg=>(hout g).1 (h.fro g hg),h.tr.keep (fun g _ _ hr _ _ hN=>hO.oth g (Zk hr) (hN.1 f List.mem_cons_self)) (fun g _ _ hN=>⟨(hout g).1 hN.1,hN.2⟩)⟩;rcases List.mem_cons.1 hu with rfl | hu
 ·
  exact⟨hF,hrl⟩
 ·
  have h1:=h.stk u (List.mem_cons_of_mem _ hu);have h2:=h.pair u hu;exact⟨Dm h1.1 (fun g g1 g2=>hO.oth g (Nat.lt_of_lt_of_le g2 h1.1.hs) (Or.inl (by omega))) hO.size,h1.2⟩
theorem Ja.own (h:Ja w0 V rb b st frv tv tr es)(hrow:∃ cs,V.heap[rb]?=some (.cells cs 182 (0,0)))(hO:One rb V V'):Ja w0 V' rb b st frv tv tr es:=by
 have hw:=h.w0b;have hr:=h.rbb;obtain⟨cs,hrow⟩:=hrow;have hne:∀ g,frv.ownBlock=some g→g≠rb:=fun g hg e=>Ub h.fr hrow (by decide) (by rw [hg,e]);refine⟨⟨hO.os.trans h.low.os,hO.tape.trans h.low.tape,hO.output.trans h.low.output,by rw [hO.size]; exact h.low.size,fun k hk=>(hO.oth k (by omega)).trans (h.low.block k hk)⟩,hw,hr,fun u hu=>⟨Dm (h.stk u hu).1 (fun g g1 _=>hO.oth g (by have:=(h.stk u hu).2; omega)) (Nat.le_of_eq hO.size.symm),(h.stk u hu).2⟩,h.ord,Lb h.fr fun g hg=>hO.oth g (hne g hg),h.fro,h.tr.keep (fun g _ _ _ _ _ hN=>hO.oth g hN.2) (fun _ _ _ h=>h)⟩
theorem Ja.drop (h:Ja w0 V rb b (f :: R) frv tv tr es){p:Option Addr}{c:Nat}(hv:frv=.slice p (R.length+1) c):Ja w0 V rb b R (.slice p R.length c) tv tr es:=by
 subst hv;have hsub:∀ g,Zjr (f :: R) g→Zjr R g:=fun g hg u hu=>hg u (List.mem_cons_of_mem _ hu);refine⟨h.low,h.w0b,h.rbb,fun u hu=>h.stk u (List.mem_cons_of_mem _ hu),(List.pairwise_cons.1 h.ord).2,?_,fun g hg=>hsub g (h.fro g (by cases p <;> exact hg)),h.tr.keep (fun _ _ _ _ _ _ _=>rfl) (fun g _ _ hN=>⟨hsub g hN.1,hN.2⟩)⟩;rcases h.fr.2 with⟨e,hn⟩ | ⟨g,cap,cur,e,hb,hg,hnc,hcm,hcs,ht⟩
 ·
  simp at hn
 ·
  injection e with e1 e2 e3;subst e1 e3;refine⟨by simp [Dx],.inr ⟨g,_,cur,rfl,hb,hg,by simp at hnc; omega,hcm,hcs,?_⟩⟩;have h2:Dx (f :: R)=Dx R++[.pointer (some ⟨f.q,0,none⟩)]:=by simp [Dx]
  rw [h2] at ht;have h3:=congrArg (List.take R.length) ht;rw [List.take_take] at h3;simp only [List.length_cons,Nat.mul_one] at h3 ⊢;rw [Nat.min_eq_left (by omega),List.take_left' (by simp [Dx])] at h3;exact h3
theorem Ja.push {V2 V3:World}{frv':Value}(h:Ja w0 V rb b st frv tv tr es)(hrow:∃ cs,V.heap[rb]?=some (.cells cs 182 (0,0)))(hb:Below V.heap.size V V2)(hf:f.At w0 V2)(hlo:V.heap.size≤f.lo)(hg:V2.grownBy V3 frv.ownBlock)
 (ho:V3.ownsRow b 237 1 frv' (st.length+1) (Dx st++[.pointer (some ⟨f.q,0,none⟩)])) (hblk:∀ g,frv'.ownBlock=some g→frv.ownBlock=some g∨V2.heap.size≤g) (j:Nat) (u:Value) :
 Ja w0 (V3.setCell ⟨rb,j,none⟩ u) rb b (f :: st) frv' tv tr es∧Below b V (V3.setCell ⟨rb,j,none⟩ u)∧Ybr rb 237 V (V3.setCell ⟨rb,j,none⟩ u):=by
 obtain⟨cs,hrow⟩:=hrow;have hw:=h.w0b;have hr:=h.rbb;have hrl:=Zk hrow;have hz:=hb.size;have hgz:=hg.size;have hfb:∀ g,frv.ownBlock=some g→b≤g∧g<V.heap.size:=h.fr.lt;have hne:∀ g,frv.ownBlock=some g→g≠rb:=fun g hg e=>Ub h.fr hrow (by decide) (by rw [hg,e]);have hsame:∀ g,g<V2.heap.size→frv.ownBlock≠some g→g≠rb→(V3.setCell ⟨rb,j,none⟩ u).heap[g]?=V2.heap[g]?:=fun g h1 h2 h3=>(heap_setCell_other _ _ _ _ h3).trans (hg.block g h1 (fun e=>h2 e.symm));have hsame0:∀ g,g<V.heap.size→frv.ownBlock≠some g→g≠rb→(V3.setCell ⟨rb,j,none⟩ u).heap[g]?=V.heap[g]?:=fun g h1 h2 h3=>(hsame g (by omega) h2 h3).trans (hb.block g h1);have hsz:(V3.setCell ⟨rb,j,none⟩ u).heap.size=V3.heap.size:=by simp
 have hB:Below b V (V3.setCell ⟨rb,j,none⟩ u):=⟨hg.os.trans hb.os,hg.tape.trans hb.tape,hg.output.trans hb.output,by rw [hsz]; omega,fun g hg'=>hsame0 g (by omega) (fun e=>by have:=(hfb g e).1; omega) (by omega)⟩;refine⟨⟨⟨hB.os.trans h.low.os,hB.tape.trans h.low.tape,hB.output.trans h.low.output,Nat.le_trans h.low.size hB.size,fun g hg'=>(hB.block g (by omega)).trans (h.low.block g hg')⟩,hw,hr,fun v hv=>?_,List.pairwise_cons.2 ⟨fun v hv=>Nat.le_trans (h.stk v hv).1.hs hlo,h.ord⟩,?_,fun g hg' v hv=>?_,h.tr.keep (fun g cs' t hr' ht hb' hN=>hsame0 g (Zk hr') (fun e=>?_) hN.2) (fun g _ hlt hN=>⟨fun v hv=>?_,hN.2⟩)⟩,hB,fun g cs' t hr' ht hne'=>hsame0 g (Zk hr') (fun e=>?_) hne'⟩
 ·
  rcases List.mem_cons.1 hv with rfl | hv
  ·
   exact⟨Dm hf (fun g g1 g2=>hsame g (Nat.lt_of_lt_of_le g2 hf.hs) (fun e=>by have:=(hfb g e).2; omega) (by omega)) (by rw [hsz]; omega),by omega⟩
  ·
   have k:=h.stk v hv;exact⟨Dm k.1 (fun g g1 g2=>hsame0 g (Nat.lt_of_lt_of_le g2 k.1.hs) (fun e=>by rcases h.fro g e v hv with h' | h' <;> omega) (by omega)) (by rw [hsz]; omega),k.2⟩
 ·
  have ho2:=Lb (V':=V3.setCell ⟨rb,j,none⟩ u) ho fun g hg'=>heap_setCell_other _ _ _ _ (by
   rcases hblk g hg' with e | e
   ·
    exact hne g e
   ·
    show g≠rb; omega)
  simpa [Dx] using ho2
 ·
  have:=hf.hs;rcases List.mem_cons.1 hv with rfl | hv
  ·
   rcases hblk g hg' with e | e
   ·
    have:=(hfb g e).2; omega
   ·
    omega
  ·
   rcases hblk g hg' with e | e
   ·
    exact h.fro g e v hv
   ·
    have:=(h.stk v hv).1.hs; omega
 ·
  obtain⟨cs2,hr2⟩:=Dp h.fr e;rcases ht with rfl | rfl
  ·
   exact Gx hr2 hr' (by decide) rfl
  ·
   exact Gx hr2 hr' (by decide) rfl
 ·
  rcases List.mem_cons.1 hv with rfl | hv
  ·
   omega
  ·
   exact hN.1 v hv
 ·
  obtain⟨cs2,hr2⟩:=Dp h.fr e;exact Gx hr2 hr' (fun e=>ht e.symm) rfl
end
section
variable {P:Program} {ops:Array Oper} {Q:Exit→Act→World→Prop} {md:Region.Mode} {C:World→Prop} {d:Nat} {oi od:Oper} {n:Nat} {L:Array Bool} {a:Act} {w:World}
theorem uT (i:Nat){a':Act}{v:Value}(hC:C w)(h:Cm P md ops Q C d n (L.setIfInBounds i true) a' w)(hi:ops[i]?=some oi:=by rfl)(hd:ops[d]?=some od:=by rfl)(hk:((od.after.any fun e=>Region.binds md e&&e.on==i)&&(Region.noSelect ops&&(Region.free md ops L i&&((Region.ready md ops L).contains i&&!(L.getD d true)))))=true:=by kernel_rfl)(hg:Region.wanted oi (yielded ops a.tmps)=true:=by rfl)(hy:∀(w:World),C w→Sem.run P (execOp a.eval oi) w=Result.ok (Next.value v) w:=by intro V hV; (try dsimp only at hV); go_simp; all_goals (with_reducible rfl))(hQ:∀ c a w,Q (.panic c) (a.put oi.dst v) w→Q (.panic c) a w:=by exact fun _ _ _ h=>h)(ha:a.put oi.dst v=a':=by(try simp only [Act.put,zA,zB,zC,zD,zE,zF]); with_reducible rfl):Cm P md ops Q C d (n+1) L a w:=by
 subst ha;exact Zzx hi hd hk hQ (Or.inl ⟨hg,hy⟩) hC h
theorem uO (i:Nat)(h:∀ K':Act→World→Prop,_root_.Go.Shut (∀ a w,((L.setIfInBounds i true).getD d true=false→C w)→Cm P md ops Q C d n (L.setIfInBounds i true) a w→K' a w)→if Region.wanted oi (yielded ops a.tmps)=true then Oper.wp P oi a w K' Q else K' (a.put oi.dst undef) w)(hr:Region.ready md ops L=[i]:=by kernel_rfl)(ho:ops[i]?=some oi:=by rfl):Cm P md ops Q C d (n+1) L a w:=Df hr ho h
end
set_option maxHeartbeats 2000000
set_option maxRecDepth 100000
theorem Znb (rb:Nat)(fv scv vv tv:Value)(kind steps:Int)(g n c:Nat)(w:World)(h:Ni w rb fv scv (.slice (some ⟨g,0,none⟩) (n+1) c) kind vv tv steps)(hn:n+1≤c)(hn2:n≤1000000) :
 Calls Tryz.prog 174 #[.pointer (some ⟨rb,0,none⟩)] w fun e w'=>(∃ v,e=.returned v)∧One rb w w'∧Ni w' rb fv scv (.slice (some ⟨g,0,none⟩) n c) kind vv tv steps:=by
 have c2:=cR h 2;have d2:w.drew.cell? ⟨rb,2,none⟩=some (.slice (some ⟨g,0,none⟩) (n+1) c):=c2;have z2:=frozen_of_row _ _ 2 _ _ h;have y2:w.drew.frozen? ⟨rb,2,none⟩=false:=z2;have HX:=Za (show Ni (w.drew.setCell ⟨rb,2,none⟩ (.slice (some ⟨g,0,none⟩) n c)) rb fv scv (.slice (some ⟨g,0,none⟩) n c) kind vv tv steps from heap_setCell_same _ _ 2 _ _ _ (show Ni w.drew rb fv scv (.slice (some ⟨g,0,none⟩) (n+1) c) kind vv tv steps from h));have HO:=Za (Zzs (g:=rb) (j:=2) (v:=.slice (some ⟨g,0,none⟩) n c) (Below.refl w.heap.size w).drew rfl);clear h;go_enter Tryz.func174,Tryz.ntmps174
 go_upto_region 0 with fail
 go_region
 all_goals
  go_wp2;go_returns;exact⟨⟨_,rfl⟩,J HO,J HX⟩
theorem Ybs (rb:Nat)(fv scv frv vv tv:Value)(vp:Option Addr)(vn vc:Nat)(kind k steps:Int)(w:World)(h:Ni w rb fv scv frv kind vv tv steps) :
 Calls Tryz.prog 175 #[.pointer (some ⟨rb,0,none⟩),.int .i64 k,.slice vp vn vc] w fun e w'=>(∃ v,e=.returned v)∧One rb w w'∧Ni w' rb fv scv frv k (.slice vp vn vc) tv steps:=by
 have c3:=cR h 3;have z3:=frozen_of_row _ _ 3 _ _ h;have h1:Ni (w.setCell ⟨rb,3,none⟩ (.int .i64 k)) rb fv scv frv k vv tv steps:=heap_setCell_same _ _ 3 _ _ _ h;have c4:=cR h1 4;have z4:=frozen_of_row _ _ 4 _ _ h1;have h2:Ni ((w.setCell ⟨rb,3,none⟩ (.int .i64 k)).setCell ⟨rb,4,none⟩ (.slice vp vn vc)) rb fv scv frv k (.slice vp vn vc) tv steps:=heap_setCell_same _ _ 4 _ _ _ h1;have HX:=Za h2;have HO:=Za (show One rb w ((w.setCell ⟨rb,3,none⟩ (.int .i64 k)).setCell ⟨rb,4,none⟩ (.slice vp vn vc)) from⟨rfl,rfl,rfl,by simp,fun q hq=>(heap_setCell_other _ _ _ _ hq).trans (heap_setCell_other _ _ _ _ hq)⟩);clear h h1 h2;go_enter Tryz.func175,Tryz.ntmps175
 go_wp2;go_returns;exact⟨⟨_,rfl⟩,J HO,J HX⟩
set_option maxHeartbeats 4000000
set_option maxRecDepth 100000
theorem Tryz.infoPt:(Tryz.prog.info? 237).map (fun i=>(i.zero,i.size,i.bytes))=some (some (.pointer none),1,8):=by kernel_rfl
theorem Zgy (w0 w:World)(rb b:Nat)(st:List Us)(fp:Option Addr)(fcp:Nat)(tv vv scv:Value)(tr:List (Int×List Int))(es:List Value)(kind steps:Int)(hS:Ja w0 w rb b st (.slice fp st.length fcp) tv tr es)(fn:Zy)(k fb fo fc N:Nat)(A:Nat→Array Value)(hrow:Ni w rb (.slice (some ⟨fb,fo,none⟩) N fc) scv (.slice fp st.length fcp) kind vv tv steps)(hk:k<N)
 (hfs:∀ i,i<N→w0.rangeAt fb (fo+i*5) (A i).toList) (hfb:fb<w0.heap.size) (hfn:Kh w0 (A k) fn) (hH:FnH fn) (ws outs:List Int) (wp op:Option Addr) (wc oc:Nat) (hW:Cg w (.slice wp ws.length wc) ws) (hOu:Li w0 (.slice op outs.length oc) outs) (hwl:ws.length=Mr fn.params) (hws:∀ n ∈ ws,0≤n∧n<18446744073709551616) (hst:st.length≤100000) :
 Calls Tryz.prog 73 #[.pointer (some ⟨rb,0,none⟩),.int .i64 (k:Int),.slice wp ws.length wc,.slice op outs.length oc] w fun e w'=>(∃ v,e=.returned v)∧∃ f fp' fc',f.x=Ka fn ws outs∧f.op=op∧f.oc=oc∧IOk (Ka fn ws outs)∧Ni w' rb (.slice (some ⟨fb,fo,none⟩) N fc) scv (.slice fp' (st.length+1) fc') kind vv tv steps∧Ja w0 w' rb b (f :: st) (.slice fp' (st.length+1) fc') tv tr es∧Below b w w'∧Ybr rb 237 w w':=by
 obtain⟨ti,hti,hty0,hty1,hty2⟩:=Sh Tryz.infoPt;obtain⟨pv,hv,sv,bv,B,hA,hD⟩:=hfn;obtain⟨pp,pc,rfl⟩:=hD.ps.shape;obtain⟨qh,ch,rfl⟩:=hD.hs.shape;obtain⟨qs,cs,rfl⟩:=hD.ss.shape;obtain⟨qb,cb,rfl⟩:=hD.bs.shape;have hz0:=hS.low.size;have hw0b:=hS.w0b;have hrb:=hS.rbb;have hrl:=Zk hrow;have HS:=Za hS;have HROW:=Za hrow;have hcell:∀ j y,#[.slice pp fn.params.length pc,.int .i64 fn.results,.slice qh fn.homes.length ch,.slice qs fn.slots.length cs,.slice qb fn.blocks.length cb].toList[j]?=some y→w0.cell? ⟨fb,fo+k*5+j,none⟩=some y:=fun j y hy=>by
  have:=hfs k hk j y (by rw [hA]; exact hy);exact this
 have HCK:=Za (fun(V:World) (hb:Below w.heap.size w V)=>show(fun V=>V.cell? ⟨rb,2,none⟩=some (.slice fp st.length fcp)∧V.cell? ⟨rb,0,none⟩=some (.slice (some ⟨fb,fo,none⟩) N fc)∧V.cell? ⟨fb,fo+k*5,none⟩=some (.slice pp fn.params.length pc)∧V.cell? ⟨fb,fo+k*5+1,none⟩=some (.int .i64 fn.results)∧V.cell? ⟨fb,fo+k*5+2,none⟩=some (.slice qh fn.homes.length ch)∧V.cell? ⟨fb,fo+k*5+3,none⟩=some (.slice qs fn.slots.length cs)∧V.cell? ⟨fb,fo+k*5+4,none⟩=some (.slice qb fn.blocks.length cb)) V from by
  have hr:=(hb.block rb hrl).trans hrow;have hx:∀ j y,#[.slice pp fn.params.length pc,.int .i64 fn.results,.slice qh fn.homes.length ch,.slice qs fn.slots.length cs,.slice qb fn.blocks.length cb].toList[j]?=some y→V.cell? ⟨fb,fo+k*5+j,none⟩=some y:=fun j y hy=>(hb.cell (p:=⟨fb,fo+k*5+j,none⟩) (by show fb<w.heap.size; omega)).trans ((hS.low.cell (p:=⟨fb,fo+k*5+j,none⟩) hfb).trans (hcell j y hy));exact⟨(cR hr 2),(cR hr 0),hx 0 _ rfl,hx 1 _ rfl,hx 2 _ rfl,hx 3 _ rfl,hx 4 _ rfl⟩)
 have HC0:=Za (J HCK w.drew (Below.refl _ _).drew);have HNF:=Za (Zmx w0 w.drew fn ws outs pp qh qs qb wp op pc ch cs cb wc oc B hD hS.low.drew (Nx hW (Below.refl _ _).drew) hOu (Ydz hH) (fun j hj=>by have:=hH.sw j hj; omega) hH.sl hH.pl hH.hl hwl hws);have hkN:(k:Int)<N:=by omega
 clear hS hrow hfs hA hD hH hW hOu hwl hws hcell;go_enter Tryz.func73,Tryz.ntmps73
 go_upto_region 0 with fail
 refine Rb (C:=fun V=>V.cell? ⟨rb,2,none⟩=some (.slice fp st.length fcp)∧V.cell? ⟨rb,0,none⟩=some (.slice (some ⟨fb,fo,none⟩) N fc)∧V.cell? ⟨fb,fo+k*5,none⟩=some (.slice pp fn.params.length pc)∧V.cell? ⟨fb,fo+k*5+1,none⟩=some (.int .i64 fn.results)∧V.cell? ⟨fb,fo+k*5+2,none⟩=some (.slice qh fn.homes.length ch)∧V.cell? ⟨fb,fo+k*5+3,none⟩=some (.slice qs fn.slots.length cs)∧V.cell? ⟨fb,fo+k*5+4,none⟩=some (.slice qb fn.blocks.length cb)) (d:=19) (by kernel_rfl) ?_;refine uT 0 (J HC0) ?_;refine uT 1 (J HC0) ?_;refine uT 2 (J HC0) ?_;refine uT 3 (J HC0) ?_;refine uT 4 (J HC0) ?_;refine uT 5 (J HC0) ?_;refine uT 6 (J HC0) ?_;refine uT 7 (J HC0) ?_;refine uT 8 (J HC0) ?_;refine uT 9 (J HC0) ?_;refine uT 10 (J HC0) ?_;refine uT 11 (J HC0) ?_;refine uT 12 (J HC0) ?_;refine uT 13 (J HC0) ?_;refine uO 14 fun K hK=>?_;go_simp;refine(J HNF).mono ?_;rintro e w1 ⟨q,lo,hi,lg,sp,sc,gs,rfl,hlo,hF,hb1,hok⟩;have hb1':Below w.heap.size w w1:=⟨hb1.os,hb1.tape,hb1.output,hb1.size,hb1.block⟩;have HC1:=Za (J HCK w1 hb1');have HF1:=Za hF;have HB1:=Za hb1';have HOK:=Za hok;have HLO:=Za hlo;clear hF hb1 hb1' hok hlo;refine kO hK (fun _=>J HC1) ?_;clear hK K;refine uO 15 fun K hK=>?_;go_simp;obtain⟨r2,hb2,hz2⟩:=Gk w1 (.cells #[.pointer (some ⟨q,0,none⟩)] 237 (0,0));have HB2:=Za (show Below w.heap.size w (w1.alloc (.cells #[.pointer (some ⟨q,0,none⟩)] 237 (0,0))) from Zd (J HB1) hb2 (J HB1).size)
 have HF2:=Za (Yv (J HF1) hb2);have HOW2:=Za ((J HS).grow (J HB2)).fr;have HC2:=Za (J HCK _ (J HB2));have HBB:=Za (show b≤(w1.alloc (.cells #[.pointer (some ⟨q,0,none⟩)] 237 (0,0))).heap.size by have:=(J HB2).size; omega);have c0:=cR r2 0;clear r2 hb2 hz2;refine kO hK (fun _=>J HC2) ?_;clear hK K;generalize World.alloc w1 _=W2 at HB2 HF2 HOW2 HC2 HBB c0 ⊢;refine uO 16 fun K hK=>?_;refine Zjq rfl (.tmp 12) (.tmp 23) 180 rfl b 237 ti _ 1 8 Tryz.underlying180 hti hty0 hty1 hty2 rfl (by decide) (.slice fp st.length fcp) st.length (Dx st) (by simp [Act.eval]) (J HOW2) ⟨w1.heap.size,0,none⟩ 1 1 [.pointer (some ⟨q,0,none⟩)] (by simp [Act.eval]) rfl (by intro j u hj; match j,hj with | 0,hj=>(simp at hj; subst hj; exact c0)) (by intro u hu; simp at hu; subst hu; rfl) (by unfold maxLen; omega) (by omega) (J HBB) ?_;intro v7 w7 hown7 hgr7 hblk7;obtain⟨fp7,fc7,rfl⟩:=Xk hown7;have hP:=Ja.push (f:=⟨Ka fn ws outs,q,lo,hi,lg,qb,sp,op,cb,sc,oc,gs,B⟩) (J HS) ⟨_,J HROW⟩ (J HB2) (J HF2) (J HLO) hgr7 hown7 hblk7 2 (.slice fp7 (st.length+1) fc7);have hrw:Ni w7 rb (.slice (some ⟨fb,fo,none⟩) N fc) scv (.slice fp st.length fcp) kind vv tv steps:=by
  have h1:=((J HB2).block rb (Zk (J HROW))).trans (J HROW);exact(hgr7.block rb (Zk h1) (fun e=>Ub (J HOW2) h1 (by decide) e.symm)).trans h1
 have z2:=frozen_of_row _ _ 2 _ _ hrw;have c2:=cR hrw 2;have HX:=Za (show Ni (w7.setCell ⟨rb,2,none⟩ (.slice fp7 (st.length+1) fc7)) rb (.slice (some ⟨fb,fo,none⟩) N fc) scv (.slice fp7 (st.length+1) fc7) kind vv tv steps from heap_setCell_same _ _ 2 _ _ _ hrw);have HP:=Za hP;have HC3:=Za (show(fun V=>V.cell? ⟨rb,2,none⟩=some (.slice fp st.length fcp)∧V.cell? ⟨rb,0,none⟩=some (.slice (some ⟨fb,fo,none⟩) N fc)∧V.cell? ⟨fb,fo+k*5,none⟩=some (.slice pp fn.params.length pc)∧V.cell? ⟨fb,fo+k*5+1,none⟩=some (.int .i64 fn.results)∧V.cell? ⟨fb,fo+k*5+2,none⟩=some (.slice qh fn.homes.length ch)∧V.cell? ⟨fb,fo+k*5+3,none⟩=some (.slice qs fn.slots.length cs)∧V.cell? ⟨fb,fo+k*5+4,none⟩=some (.slice qb fn.blocks.length cb)) w7 from by
  obtain⟨g2,g0,h0,h1,h2,h3,h4⟩:=J HC2;have hk:∀ q,q<w0.heap.size→w7.heap[q]?=W2.heap[q]?:=fun q hq=>hgr7.block q (by have:=(J HB2).size; have:=(J HS).low.size; omega) (fun e=>by have:=((J HOW2).lt q e.symm).1; have:=(J HS).w0b; omega);exact⟨c2,(cR hrw 0),(World.cell?_of_block (hk fb hfb)).trans h0,(World.cell?_of_block (hk fb hfb)).trans h1,(World.cell?_of_block (hk fb hfb)).trans h2,(World.cell?_of_block (hk fb hfb)).trans h3,(World.cell?_of_block (hk fb hfb)).trans h4⟩)
 clear hown7 hgr7 hblk7 hP hrw c0;refine kO hK (fun _=>J HC3) ?_;clear hK K;refine uO 17 fun K hK=>?_;go_simp;refine kO hK (fun _=>J HC3) ?_;clear hK K;refine uO 18 fun K hK=>?_;go_simp;refine kO hK (fun _=>J HC3) ?_;clear hK K;refine uO 19 fun K hK=>?_;go_simp;refine kO hK (fun h=>(by cases h)) ?_;clear hK K;refine Cb (by kernel_rfl) ?_ _;go_wp2;go_returns;exact⟨⟨_,rfl⟩,⟨Ka fn ws outs,q,lo,hi,lg,qb,sp,op,cb,sc,oc,gs,B⟩,rfl,rfl,rfl,J HOK,fp7,fc7,J HX,(J HP).1,(J HP).2.1,(J HP).2.2⟩
set_option maxHeartbeats 4000000
set_option maxRecDepth 100000
theorem Zfr {g:Nat}{a b c:World}(h:One g a b)(k:One g b c):One g a c:=⟨k.os.trans h.os,k.tape.trans h.tape,k.output.trans h.output,k.size.trans h.size,fun q hq=>(k.oth q hq).trans (h.oth q hq)⟩
theorem Da {g b:Nat}{w w':World}(h:One g w w')(hb:b≤g):Below b w w':=⟨h.os,h.tape,h.output,Nat.le_of_eq h.size.symm,fun k hk=>h.oth k (by omega)⟩
theorem Zgz {w:World}{B e size n:Nat}{g c:Nat}{xs:List Value}(h:w.ownsRow B e size (.slice (some ⟨g,0,none⟩) n c) n xs):n≤c:=by
 rcases h.2 with⟨e,-⟩ | ⟨g',cap,cur,e,-,-,hnc,-⟩
 ·
  cases e
 ·
  injection e with e1 e2 e3;omega
theorem Znc (w0 w:World)(rb b:Nat)(f:Us)(g c:Nat)(fv scv vv tv:Value)(tr:List (Int×List Int))(es:List Value)(kind steps:Int)(vp op:Option Addr)(vn vc on oc:Nat)(hS:Ja w0 w rb b [f] (.slice (some ⟨g,0,none⟩) (0+1) c) tv tr es)(hrow:Ni w rb fv scv (.slice (some ⟨g,0,none⟩) (0+1) c) kind vv tv steps) :
 Calls Tryz.prog 172 #[.pointer (some ⟨rb,0,none⟩),.slice vp vn vc,.slice op on oc] w fun e w'=>(∃ v,e=.returned v)∧Ni w' rb fv scv (.slice (some ⟨g,0,none⟩) 0 c) 1 (.slice vp vn vc) tv steps∧Ja w0 w' rb b [] (.slice (some ⟨g,0,none⟩) 0 c) tv tr es∧One rb w w':=by
 have HD:=Za (Znb rb fv scv vv tv kind steps g 0 c w hrow (Zgz hS.fr) (by omega));have HS:=Za hS;have HROW:=Za hrow;clear hS hrow;go_enter Tryz.func172,Tryz.ntmps172
 go_wp2_with fail
 refine(J HD).mono ?_;rintro e w1 ⟨⟨v,rfl⟩,hO1,hR1⟩;have c2:=cR hR1 2;have HE:=Za (Ybs rb fv scv (.slice (some ⟨g,0,none⟩) 0 c) vv tv vp vn vc kind 1 steps w1 hR1);have HR1:=Za hR1;have HO1:=Za hO1;clear hR1 hO1 HD;go_wp2_with fail
 refine(J HE).mono ?_;rintro e w2 ⟨⟨v,rfl⟩,hO2,hR2⟩;have HR2:=Za hR2;have HO2:=Za hO2;clear hR2 hO2 HE c2;go_wp2;go_returns;exact⟨⟨_,rfl⟩,J HR2,(((J HS).drop (R:=[]) rfl).own ⟨_,J HROW⟩ (Zfr (J HO1) (J HO2))),Zfr (J HO1) (J HO2)⟩
theorem Znd (w0 w:World)(rb b:Nat)(f c:Us)(R:List Us)(g n cap hv:Nat)(fv scv vv tv:Value)(tr:List (Int×List Int))(es:List Value)(kind steps:Int)(vals outs:List Int)(vp op:Option Addr)(vc oc:Nat)(hn:n=R.length)(hS:Ja w0 w rb b (f :: c :: R) (.slice (some ⟨g,0,none⟩) (n+1+1) cap) tv tr es)(hrow:Ni w rb fv scv (.slice (some ⟨g,0,none⟩) (n+1+1) cap) kind vv tv steps)(hn2:n≤100000)
 (hvo:w.ownsRow hv 50 1 (.slice vp vals.length vc) vals.length (uC vals)) (hhv:c.hi≤hv) (hrv:rb<hv) (hl:Li w0 (.slice op outs.length oc) outs) (hol:outs.length≤1000) (hin:∀ k,k<outs.length→0≤outs.getD k 0∧outs.getD k 0<c.x.v.length) (hle:outs.length≤vals.length) :
 Calls Tryz.prog 172 #[.pointer (some ⟨rb,0,none⟩),.slice vp vals.length vc,.slice op outs.length oc] w fun e w'=>(∃ v,e=.returned v)∧Ni w' rb fv scv (.slice (some ⟨g,0,none⟩) (n+1) cap) kind vv tv steps∧Ja w0 w' rb b ({ c with x:={ c.x with v:=Ot c.x.v outs vals } } :: R) (.slice (some ⟨g,0,none⟩) (n+1) cap) tv tr es∧Below b w w'∧∀ q,q<w.heap.size→q≠rb→q<c.lo∨c.hi≤q→w'.heap[q]?=w.heap[q]?:=by
 have hcap:=Zgz (n:=n+1+1) (xs:=Dx (f :: c :: R)) (by have:=hS.fr; simp only [List.length_cons,← hn] at this; exact this);have HD:=Za (Znb rb fv scv vv tv kind steps g (n+1) cap w hrow hcap (by omega));have HS:=Za hS;have HROW:=Za hrow;have HVO:=Za hvo;have HL:=Za hl;have HIN:=Za hin;have HN:=Za hn;clear hS hrow hvo hl hin hn;go_enter Tryz.func172,Tryz.ntmps172
 go_wp2_with fail
 refine(J HD).mono ?_;rintro e w1 ⟨⟨v,rfl⟩,hO1,hR1⟩;have c2:=cR hR1 2;have hS1:=((J HS).drop (R:=c :: R) (p:=some ⟨g,0,none⟩) (c:=cap) (by rw [J HN]; rfl)).own ⟨_,J HROW⟩ hO1;rw [List.length_cons,← J HN] at hS1;have hcell:w1.cell? ⟨g,n,none⟩=some (.pointer (some ⟨c.q,0,none⟩)):=by
  have hfr:=hS1.fr;rw [List.length_cons,← J HN] at hfr;obtain⟨g',e,-,hc⟩:=Rz hfr (k:=n) (by omega);injection e with e;injection e with e;subst e;rw [hc];have h2:Dx (c :: R)=Dx R++[.pointer (some ⟨c.q,0,none⟩)]:=by simp [Dx]
  rw [h2,J HN,List.getElem?_append_right (by simp [Dx])];simp [Dx]
 have hcc:=hS1.stk c List.mem_cons_self;have hvo1:w1.ownsRow hv 50 1 (.slice vp vals.length vc) vals.length (uC vals):=Lb (J HVO) fun g hg=>hO1.oth g (by have:=((J HVO).lt g hg).1; omega);have hset:=Zuy w0 c.x c.q c.lo c.hi c.lg c.bp c.sp c.op c.bc c.sc c.oc c.gs c.B outs vals op vp oc vc hv w1.drew (Yv hcc.1 (Below.refl _ _).drew) hS1.low.drew (by have:=hS1.w0b; have:=hS1.rbb; omega) (J HL) hol (J HIN) hvo1 hhv hle;have HSET:=Za hset;have hgo:∀ g',(Value.slice (some ⟨g,0,none⟩) (n+1) cap).ownBlock=some g'→Zjr (c :: R) g':=hS1.fro;have hgout:=hgo g rfl c List.mem_cons_self;have hglt:=(hS1.fr.lt g rfl).2;have HSK:=Za (fun(V:World) (hO:OnB c.lo c.hi w1.drew V)=>show V.cell? ⟨rb,2,none⟩=some (.slice (some ⟨g,0,none⟩) (n+1) cap)∧V.cell? ⟨g,n,none⟩=some (.pointer (some ⟨c.q,0,none⟩)) from
  ⟨(World.cell?_of_block (hO.oth rb (Zk hR1) (Or.inl hcc.2))).trans c2,(World.cell?_of_block (hO.oth g hglt hgout)).trans hcell⟩)
 have HS1:=Za hS1;have HR1:=Za hR1;have HO1:=Za hO1;clear hS1 hR1 hO1 HD hset hcell hvo1 hgo hgout hglt hcc;have hi0:(0:Int)≤(n:Int):=by omega
 have hi1:(n:Int)<(n:Int)+1:=by omega
 have hi2:IntKind.i64.wrap (n:Int)=(n:Int):=IntKind.wrap_of_boundsK (by omega) (by omega);go_upto_region 3 with fail
 clear c2;go_region_held3 (fun V=>V.cell? ⟨rb,2,none⟩=some (.slice (some ⟨g,0,none⟩) (n+1) cap)∧V.cell? ⟨g,n,none⟩=some (.pointer (some ⟨c.q,0,none⟩))) ((first | exact J HSK _ (Zde _ _ _) | exact J HSK _ (J HO5))) ((go_at_call 229; refine(J HSET).mono ?_; rintro e w5 ⟨⟨v5,rfl⟩,hF5,hO5⟩; have HF5:=Za hF5; have HO5:=Za hO5; clear hF5 hO5))
 all_goals
  go_wp2;go_returns;have hS1:=J HS1;have hO5:=J HO5;have hO5':OnB c.lo c.hi w1 w5:=⟨hO5.os,hO5.tape,hO5.output,hO5.size,hO5.oth⟩;have hcl:=(hS1.stk c List.mem_cons_self).2;have hbb:=hS1.rbb;refine⟨⟨_,rfl⟩,(hO5.oth rb (Zk (J HR1)) (Or.inl hcl)).trans (J HR1),hS1.top (J HF5) hO5',?_,fun q hq hne hd=>(hO5'.oth q (by rw [(J HO1).size]; exact hq) hd).trans ((J HO1).oth q hne)⟩;refine(Da (J HO1) hbb).trans ⟨hO5.os,hO5.tape,hO5.output,hO5.size,fun k hk=>hO5'.oth k (by have:=Zk (J HR1); omega) (Or.inl (by omega))⟩
end Go.Proofs.YtedemloocadimaaGreatDoor
