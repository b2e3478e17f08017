import Derived.Test.YtkenknfgeoecbaaGreatDoorInI
import Derived.Test.YtkenknfgeoecbaaGreatDoorJ25
namespace Go.Proofs.YtkenknfgeoecbaaGreatDoor
open Go.RowKit
def LiU (w:World)(v:Value)(ws:List Int):Prop:=∃ p cap,v=.slice p ws.length cap∧ws.length<=cap∧ws.length<4611686018427387904∧(0<ws.length->∃ sb so,p=some ⟨sb,so,none⟩∧∀ i,i<ws.length->w.cell? ⟨sb,so+i,none⟩=some (.int .u64 (ws.getD i 0)))
theorem Lq {w w':World}{v:Value}{ws:List Int}(h:LiU w v ws)(hb:Below w.heap.size w w'):LiU w' v ws:=by obtain⟨p,cap,h1,h2,h3,h4⟩:=h;refine⟨p,cap,h1,h2,h3,fun h0=>?_⟩;obtain⟨sb,so,e,hc⟩:=h4 h0;exact⟨sb,so,e,fun i hi=>(hb.cell (p:=⟨sb,so+i,none⟩) (World.block_lt_of_cell? w _ (hc i hi))).trans (hc i hi)⟩
def Zit (bs ws:List Int)(k:Nat):List Int:=(List.range k).foldl (fun b k=>stB b (8*k) 8 (ws.getD k 0)) bs
theorem Zcg (bs ws:List Int)(k:Nat):Zit bs ws (k+1)=stB (Zit bs ws k) (8*k) 8 (ws.getD k 0):=by unfold Zit;rw [List.range_succ,List.foldl_append];rfl
theorem Zew (bs ws:List Int):∀ k,(Zit bs ws k).length=bs.length
 | 0=>rfl
 | k+1=>by rw [Zcg,Zyj,Zew bs ws k]
structure One (g:Nat)(w w':World):Prop where
 os:w'.os=w.os
 tape:w'.tape=w.tape
 output:w'.output=w.output
 size:w'.heap.size=w.heap.size
 oth:∀ q:Nat,q≠g->w'.heap[q]?=w.heap[q]?
theorem Ztw (z:Value)(n:Nat):madeCells #[z] n=(List.replicate n z).toArray:=by
 apply Array.ext'
 apply List.ext_getElem?
 intro i;by_cases h:i<n
 ·simp [madeCells,h,Nat.mod_one]
 ·simp [madeCells,h]
theorem mkU (n:Nat)(hn:n<=1000000)(w:World):(Instr.makeSlice 84 (.int .i64 (n:Int)) (.int .i64 (n:Int))).run Tryz.prog w=.ok (.slice (some ⟨w.heap.size,0,none⟩) n n) (w.alloc (.cells (uC (List.replicate n 0)).toArray 90)):=by obtain⟨ti,hti,hz0,hz1,hz2⟩:=Ly Tryz.infoU64;have h:=run_make (P:=Tryz.prog) w 84 90 ti _ Tryz.underlying84 hti hz0 .i64 .i64 (n:Int) (n:Int) (by omega) (Int.le_refl _) (by rw [hz2]; omega) (by omega);rw [hz1,Int.toNat_natCast,Nat.mul_one,show(Value.int IntKind.u64 0).cells=#[.int .u64 0] from rfl,Ztw,show List.replicate n (Value.int IntKind.u64 0)=uC (List.replicate n 0) by simp [uC]] at h;exact h
theorem Zex {w:World}{B e size n:Nat}{v:Value}{xs:List Value}(h:w.ownsRow B e size v (n+1) xs):∃ g c,v=.slice (some ⟨g,0,none⟩) (n+1) c:=by
 rcases h.2 with⟨-,e0⟩ | ⟨g,cap,cur,e,-⟩
 ·omega
 ·exact⟨g,cap,e⟩
def Yek (id:Nat)(X:Act->World->Prop):Exit->Act->World->Prop
 | .exit n,a,w=>n=id∧X a w
 | _,_,_=>False
theorem Zht {P:Program}{c:Code}{id:Nat}{Q0:Exit->Act->World->Prop}{a:Act}{w:World}(h:c.wp P (Yek id fun a w=>Q0 (.exit id) a w) a w):c.wp P Q0 a w:=wp_mono h (fun e a w hq=>by
 cases e with
 | exit n=>obtain⟨rfl,hx⟩:=hq; exact hx
 | normal=>exact hq.elim
 | goto l=>exact hq.elim
 | ret=>exact hq.elim
 | panic c=>exact hq.elim
 | outgrown=>exact hq.elim)
def Rn:Code->List Code
 | .loop c=>.loop c :: Rn c
 | .seq a b=>Rn a++Rn b
 | .block _ c=>Rn c
 | .scope c=>Rn c
 | .cond _ a b=>Rn a++Rn b
 | _=>[]
structure Yem (T:Yh):Prop where
 a:T.ag.length*8<=140737488351232
 r:T.rs.length*8<=140737488351232
 s:T.ss.length*8<=140737488351232
section
variable {P:Program} {ops:Array Oper} {Q:Exit->Act->World->Prop} {md:Region.Mode} {C:World->Prop} {d:Nat}
def Mm (P:Program)(md:Region.Mode)(ops:Array Oper)(Q:Exit->Act->World->Prop)(C:World->Prop)(d:Nat):Nat->Array Bool->Act->World->Prop
 | 0,L,a,w=>Region.ready md ops L=[]∧Q .normal a w
 | n+1,L,a,w=>(Region.ready md ops L=[]->Q .normal a w)∧∀ i ∈ Region.ready md ops L,wpOp P ops Q i (fun a' w'=>((L.setIfInBounds i true).getD d true=false->C w')∧Mm P md ops Q C d n (L.setIfInBounds i true) a' w') a w
theorem Zhx:∀(n:Nat) (L:Array Bool) (a:Act) (w:World),Mm P md ops Q C d n L a w->wpAny P md ops Q n L a w
 | 0,_,_,_,h=>h
 | n+1,_,_,_,h=>⟨h.1,fun i hi=>wpOp_mono (fun a' w' h'=>Zhx n _ a' w' h'.2) (h.2 i hi)⟩
theorem Zld {i:Nat}{oi od:Oper}{v:Value}(hi:ops[i]?=some oi)(hd:ops[d]?=some od)(hwait:∃ e ∈ od.after,Region.binds md e=true∧e.on=i)
 (hsel:∀(j:Nat) (o:Oper) cs b,ops[j]?=some o->o.op≠.select cs b) (hQ:∀ c a w,Q (.panic c) (a.put oi.dst v) w->Q (.panic c) a w) :
 ∀(n:Nat) (L:Array Bool) (a:Act) (w:World),(∀ j oj,ops[j]?=some oj->j≠i->L.getD j true=false->(∀ e ∈ oj.after,Region.binds md e=true->e.on≠i)->oi.apart ops oj=true) ->
  i ∈ Region.ready md ops L->YieldsIf P ops C oi v a->L.getD d true=false->C w->Mm P md ops Q C d n (L.setIfInBounds i true) (a.put oi.dst v) w->Mm P md ops Q C d (n+1) L a w:=by
 intro n;induction n with
 | zero =>
  intro L a w _ hr hy _ hC H;refine⟨fun h=>(by rw [h] at hr; cases hr),fun j hj=>?_⟩;by_cases hji:j=i
  ·subst hji;exact hy.wpOp hi hC ⟨fun _=>hC,H⟩
  ·have hx:=ready_mono hj hji;rw [H.1] at hx;cases hx
 | succ n ih =>
  intro L a w hfree hr hy hLd hC H;refine⟨fun h=>(by rw [h] at hr; cases hr),fun j hj=>?_⟩;by_cases hji:j=i
  ·subst hji;exact hy.wpOp hi hC ⟨fun _=>hC,H⟩
  ·have h1:=H.2 j (ready_mono hj hji);obtain⟨hun,oj,hoj,hall⟩:=mem_ready.1 hj;have hiu:=(mem_ready.1 hr).1;have hnot:∀ e ∈ oj.after,Region.binds md e=true->e.on≠i:=fun e he hb hq=>by
    have k1:=hall e he hb;rw [hq] at k1;rcases Nat.lt_or_ge i L.size with h' | h'
    ·simp [h'] at hiu k1;rw [hiu] at k1;cases k1
    ·simp [Array.getElem?_eq_none h'] at k1
   have hjd:j≠d:=fun e=>by
    subst e;rw [hoj] at hd;injection hd with hd;subst hd;obtain⟨e,he,hb,hq⟩:=hwait;exact hnot e he hb hq
   have h2:=wpOp_putIf hoj (hfree j oj hoj hji hun hnot) (fun cs b=>hsel i oi cs b hi) (fun cs b=>hsel j oj cs b hoj) hQ hy h1;refine wpOp_mono (fun a' w' h3=>?_) h2;have hLj:(L.setIfInBounds j true).getD d true=false:=by rw [getD_set_ne true hjd]; exact hLd
   have hid:i≠d:=fun e=>by
    subst e;rw [hi] at hd;injection hd with hd;subst hd;obtain⟨e,he,hb,hq⟩:=hwait;obtain⟨-,oi',hoi',hall'⟩:=mem_ready.1 hr;rw [hi] at hoi';injection hoi' with hoi';subst hoi';have k1:=hall' e he hb;rw [hq] at k1;rcases Nat.lt_or_ge i L.size with h' | h'
    ·simp [h'] at hiu k1;rw [hiu] at k1;cases k1
    ·simp [Array.getElem?_eq_none h'] at k1
   have hC':C w':=h3.2.1 (by rw [getD_set_ne true hjd,getD_set_ne true hid]; exact hLd);refine⟨fun _=>hC',ih (L.setIfInBounds j true) a' w' (fun k ok hk hki hku hno=>?_) (ready_mono hr (Ne.symm hji)) h3.1 hLj hC' ?_⟩
   ·refine hfree k ok hk hki ?_ hno;by_cases hjk:j=k
    ·subst hjk; exact hun
    ·rw [getD_set_ne true hjk] at hku; exact hku
   ·rw [Array.setIfInBounds_comm _ _ hji];exact h3.2.2
theorem Zpw {i:Nat}{oi od:Oper}{v:Value}{n:Nat}{L:Array Bool}{a:Act}{w:World}(hi:ops[i]?=some oi)(hd:ops[d]?=some od)(hw:(od.after.any fun e=>Region.binds md e&&e.on==i)=true)
 (hs:Region.noSelect ops=true) (hf:Region.free md ops L i=true) (hr:(Region.ready md ops L).contains i=true) (hLd:L.getD d true=false)
 (hQ:∀ c a w,Q (.panic c) (a.put oi.dst v) w->Q (.panic c) a w) (hy:YieldsIf P ops C oi v a) (hC:C w)
 (h:Mm P md ops Q C d n (L.setIfInBounds i true) (a.put oi.dst v) w):Mm P md ops Q C d (n+1) L a w :=
 Zld hi hd (by
  obtain⟨k,hk,hq⟩:=Array.any_eq_true.1 hw;simp only [Bool.and_eq_true,beq_iff_eq] at hq;exact⟨_,Array.getElem_mem hk,hq.1,hq.2⟩) (Region.noSelect_spec hs) hQ n L a w (Region.free_spec hi hf) (by simpa using hr) hy hLd hC h
theorem Zhy {i:Nat}{o:Oper}{n:Nat}{L:Array Bool}{a:Act}{w:World}(hr:Region.ready md ops L=[i])(ho:ops[i]?=some o)
 (h:∀ K':Act->World->Prop,_root_.Go.Shut (∀ a w,((L.setIfInBounds i true).getD d true=false->C w)->Mm P md ops Q C d n (L.setIfInBounds i true) a w->K' a w)->if Region.wanted o (yielded ops a.tmps)=true then Oper.wp P o a w K' Q else K' (a.put o.dst undef) w):Mm P md ops Q C d (n+1) L a w:=by
 refine⟨fun h0=>(by rw [hr] at h0; cases h0),fun j hj=>?_⟩;rw [hr] at hj;obtain rfl:j=i:=by simpa using hj
 exact wpOp_step ho (fun K' hK=>h K' (fun a w h1 h2=>hK a w ⟨h1,h2⟩))
theorem Yw {L:Array Bool}{a:Act}{w:World}(hr:Region.ready md ops L=[])(h:Q .normal a w):∀ n,Mm P md ops Q C d n L a w
 | 0=>⟨hr,h⟩
 | _+1=>⟨fun _=>h,by rw [hr]; simp⟩
theorem Yc {id:Nat}{a:Act}{w:World}(hm:P.follows .mixedOrders=true)(h:Mm P .any ops Q C d ops.size (Array.replicate ops.size false) a w.drew):(Code.region id ops true).wp P Q a w :=
 wp_region_any hm (Zhx _ _ _ _ h)
end
set_option maxHeartbeats 8000000
set_option maxRecDepth 100000
def Ztx (f:Func)(n:Nat):Code:=(((f.body.map Rn).getD [])[n]?).getD .skip
theorem Ygg (w0 w u:World)(x:Ol)(q lo lg:Nat)(bp op qs:Option Addr)(bc oc cs:Nat)(ns:List Int)(B:Nat->Value)(Q0:Exit->Act->World->Prop)(s0 s1 s2 s3 s4 s5 s6 s8 s9 s10 s11 s12 s13 s14 s15 s16 s17 s18 s19 s20 s21 s25 s26 s27 s28 s29 s30 s31 s32 s33 s34 s35 s36 s37 s38 s39 s40 s41 s42 s43 s44 s45 s46 s47 s48 s49 s50 s51 s52 s53 s54 s55 s56 s57 s58 s59 s60 s61 s62 s63 s64 s65 s66 s67 s68 s69 s70 s71 s72 s73 s74 s75 s76 s77 s78 s79 s80 s81 s82:Value)
 (hx:x.s=[]) (hlo:lo=w.heap.size) (hbw0:Below w0.heap.size w0 w) (hS:Li w0 (.slice qs ns.length cs) ns) (hns:∀ k,k<ns.length->0<=ns.getD k 0∧ns.getD k 0<=8) (hnl:ns.length<=6) (hn0:ns.length=0)
 (hu:Ko w0 u x q lo u.heap.size lg bp none op bc 0 oc [] B) (hbu:Below w.heap.size w u)
 (hexit:∀(w':World) (sp:Option Addr) (sc:Nat) (gs:List Nat),Ko w0 w' { x with s:=(ns.take ns.length).map fun n=>List.replicate (8*n).toNat 0 } q lo w'.heap.size lg bp sp op bc sc oc gs B->Below w.heap.size w w'->∀(u9 u24 u25 u26 u27 u28 u29 u30 u31 u32 u33 u34 u35 u36 u37 u38 u39 u40:Value),Q0 (.exit 0) ⟨List.toArray (s0 :: s1 :: s2 :: s3 :: s4 :: s5 :: s6 :: .pointer (some ⟨q,0,none⟩) :: s8 :: u9 :: s10 :: s11 :: s12 :: s13 :: s14 :: s15 :: s16 :: s17 :: s18 :: s19 :: s20 :: s21 :: .slice qs ns.length cs :: .int .i64 ns.length :: u24 :: u25 :: u26 :: u27 :: u28 :: u29 :: u30 :: u31 :: u32 :: u33 :: u34 :: u35 :: u36 :: u37 :: u38 :: u39 :: u40 :: s41 :: s42 :: s43 :: s44 :: s45 :: s46 :: s47 :: s48 :: s49 :: s50 :: s51 :: s52 :: s53 :: s54 :: s55 :: s56 :: s57 :: s58 :: s59 :: s60 :: s61 :: s62 :: s63 :: s64 :: s65 :: s66 :: s67 :: s68 :: s69 :: s70 :: s71 :: s72 :: s73 :: s74 :: s75 :: s76 :: s77 :: s78 :: s79 :: s80 :: s81 :: s82 :: []),[]⟩ w') :
 Code.wp Tryz.prog (Ztx Tryz.f126 0) Q0 ⟨List.toArray (s0 :: s1 :: s2 :: s3 :: s4 :: s5 :: s6 :: .pointer (some ⟨q,0,none⟩) :: s8 :: s9 :: s10 :: s11 :: s12 :: s13 :: s14 :: s15 :: s16 :: s17 :: s18 :: s19 :: s20 :: s21 :: .slice qs ns.length cs :: .int .i64 ns.length :: .int .i64 0 :: s25 :: s26 :: s27 :: s28 :: s29 :: s30 :: s31 :: s32 :: s33 :: s34 :: s35 :: s36 :: s37 :: s38 :: s39 :: s40 :: s41 :: s42 :: s43 :: s44 :: s45 :: s46 :: s47 :: s48 :: s49 :: s50 :: s51 :: s52 :: s53 :: s54 :: s55 :: s56 :: s57 :: s58 :: s59 :: s60 :: s61 :: s62 :: s63 :: s64 :: s65 :: s66 :: s67 :: s68 :: s69 :: s70 :: s71 :: s72 :: s73 :: s74 :: s75 :: s76 :: s77 :: s78 :: s79 :: s80 :: s81 :: s82 :: []),[]⟩ u:=by
 have HS0:=Za hS;have HNS:=Za hns;have HU:=Za hu;have HBU:=Za hbu;have HEX:=Za hexit;have HB0:=Za hbw0;have HXS:=Za hx;have HLO:=Za hlo;have HN0:=Za hn0;clear hS hns hu hbu hexit hbw0 hx hlo hn0;refine Zht (id:=0) ?_;conv=>arg 2; whnf
 go_loopw [24] (fun sk w'=>∃(k:Nat) (sp:Option Addr) (sc:Nat) (gs:List Nat),sk=.int .i64 k∧k<=ns.length∧Ko w0 w' { x with s:=(ns.take k).map fun n=>List.replicate (8*n).toNat 0 } q lo w'.heap.size lg bp sp op bc sc oc gs B∧Below w.heap.size w w') (fun sk _=>ns.length-(intOf sk).toNat)
 case atStart =>
  have e:({ x with s:=(ns.take 0).map fun n=>List.replicate (8*n).toNat 0 }:Ol)=x:=by
   have:=J HXS;cases x
   simp_all
  refine⟨0,none,0,[],rfl,by omega,?_,J HBU⟩;rw [e];exact J HU
 case round =>
  obtain⟨k,sp,sc,gs,rfl,hk,hF,hbw⟩:=hrel;by_cases hk2:k<ns.length
  ·exact absurd (J HN0) (by omega)
  ·have hkn:k=ns.length:=by omega
   subst hkn;have HX:=Za (J HEX wr sp sc gs hF hbw);clear hF hbw;go_wp2_with fail
   exact⟨rfl,J HX _ _ _ _ _ _ _ _ _ _ _ _ _ _ _ _ _ _⟩
theorem Zhw {w:World}{B e size n:Nat}{v:Value}{xs:List Value}(h:w.ownsRow B e size v n xs)(hn:0<n):∃ g c,v=.slice (some ⟨g,0,none⟩) n c∧B<=g∧g<w.heap.size∧∀ j,j<n*size->w.cell? ⟨g,j,none⟩=xs[j]?:=by
 rcases h.2 with⟨-,e0⟩ | ⟨g,cap,cur,e,h2,h3,-⟩
 ·omega
 ·subst e;exact⟨g,cap,rfl,h2,Zh h3,fun j hj=>h.cellAt j hj⟩
theorem Zx {w:World}{B e size n:Nat}{v:Value}{xs:List Value}(h:w.ownsRow B e size v n xs):∃ p c,v=.slice p n c:=by
 rcases h.2 with⟨e,e0⟩ | ⟨g,cap,cur,e,-⟩
 ·exact⟨none,0,by rw [e0]; exact e⟩
 ·exact⟨_,_,e⟩
theorem Ki.below {w w':World}{B:Nat}{v:Value}{xs:List (Int×Int)}(h:Ki w B v xs)(hb:Below w.heap.size w w'):Ki w' B v xs:=Xh h (Jl (o:=none) hb) (fun g _ e=>by cases e)
theorem Ki.heap {w w':World}{B:Nat}{v:Value}{xs:List (Int×Int)}(h:Ki w B v xs)(e:w'.heap=w.heap):Ki w' B v xs:=by unfold Ki World.ownsRow at h ⊢;rw [e];exact h
section
variable {P:Program} {ops:Array Oper} {Q:Exit->Act->World->Prop} {md:Region.Mode} {C:World->Prop} {d:Nat}
theorem Zlt {i:Nat}{oi:Oper}{v:Value}(hi:ops[i]?=some oi)(B:Nat->Bool)(hB:∀ j oj,ops[j]?=some oj->B j=true->∃ e ∈ oj.after,Region.binds md e=true∧(e.on=i∨B e.on=true))(hBi:B i=false)(hBd:B d=true)
 (hsel:∀(j:Nat) (o:Oper) cs b,ops[j]?=some o->o.op≠.select cs b) (hQ:∀ c a w,Q (.panic c) (a.put oi.dst v) w->Q (.panic c) a w) :
 ∀(n:Nat) (L:Array Bool) (a:Act) (w:World),(∀ j oj,ops[j]?=some oj->j≠i->L.getD j true=false->(∀ e ∈ oj.after,Region.binds md e=true->e.on≠i)->oi.apart ops oj=true) ->
  i ∈ Region.ready md ops L->YieldsIf P ops C oi v a->(∀ j,B j=true->L.getD j true=false)->C w->Mm P md ops Q C d n (L.setIfInBounds i true) (a.put oi.dst v) w->Mm P md ops Q C d (n+1) L a w:=by
 intro n;have hid:i≠d:=fun e=>by rw [e,hBd] at hBi; cases hBi
 induction n with
 | zero =>
  intro L a w _ hr hy _ hC H;refine⟨fun h=>(by rw [h] at hr; cases hr),fun j hj=>?_⟩;by_cases hji:j=i
  ·subst hji;exact hy.wpOp hi hC ⟨fun _=>hC,H⟩
  ·have hx:=ready_mono hj hji;rw [H.1] at hx;cases hx
 | succ n ih =>
  intro L a w hfree hr hy hL hC H;refine⟨fun h=>(by rw [h] at hr; cases hr),fun j hj=>?_⟩;by_cases hji:j=i
  ·subst hji;exact hy.wpOp hi hC ⟨fun _=>hC,H⟩
  ·have h1:=H.2 j (ready_mono hj hji);obtain⟨hun,oj,hoj,hall⟩:=mem_ready.1 hj;have hiu:=(mem_ready.1 hr).1;have hno:∀ e ∈ oj.after,Region.binds md e=true->∀ x,L.getD x true=false->e.on≠x:=fun e he hb x hx hq=>by
    have k1:=hall e he hb;rw [hq] at k1;rcases Nat.lt_or_ge x L.size with h' | h'
    ·simp [h'] at hx k1;rw [hx] at k1;cases k1
    ·simp [Array.getElem?_eq_none h'] at k1
   have hnot:∀ e ∈ oj.after,Region.binds md e=true->e.on≠i:=fun e he hb=>hno e he hb i hiu;have hjB:B j=false:=by
    cases hb:B j with
    | false=>rfl
    | true =>
     obtain⟨e,he,hb1,hq⟩:=hB j oj hoj hb;rcases hq with hq | hq
     ·exact absurd hq (hnot e he hb1)
     ·exact absurd rfl (hno e he hb1 e.on (hL _ hq))
   have hjd:j≠d:=fun e=>by rw [e,hBd] at hjB; cases hjB
   have h2:=wpOp_putIf hoj (hfree j oj hoj hji hun hnot) (fun cs b=>hsel i oi cs b hi) (fun cs b=>hsel j oj cs b hoj) hQ hy h1;refine wpOp_mono (fun a' w' h3=>?_) h2;have hLj:∀ k,B k=true->(L.setIfInBounds j true).getD k true=false:=fun k hk=>by
    have hjk:j≠k:=fun e=>by rw [e,hk] at hjB; cases hjB
    rw [getD_set_ne true hjk]; exact hL k hk
   have hC':C w':=h3.2.1 (by rw [getD_set_ne true hjd,getD_set_ne true hid]; exact hL d hBd);refine⟨fun _=>hC',ih (L.setIfInBounds j true) a' w' (fun k ok hk hki hku hno=>?_) (ready_mono hr (Ne.symm hji)) h3.1 hLj hC' ?_⟩
   ·refine hfree k ok hk hki ?_ hno;by_cases hjk:j=k
    ·subst hjk; exact hun
    ·rw [getD_set_ne true hjk] at hku; exact hku
   ·rw [Array.setIfInBounds_comm _ _ hji];exact h3.2.2
def upV (md:Region.Mode)(ops:Array Oper)(i:Nat):List Nat:=(List.range ops.size).foldl (fun acc j=>match ops[j]? with
 | some oj=>if (oj.after.any fun e=>Region.binds md e&&(e.on==i||acc.contains e.on))=true then acc++[j] else acc
 | none=>acc) []
def okV (md:Region.Mode)(ops:Array Oper)(L:Array Bool)(d i:Nat)(B:List Nat):Bool :=
 B.contains d&&(!(B.contains i)&&B.all fun j=>!(L.getD j true)&&(match ops[j]? with
  | some oj=>oj.after.any fun e=>Region.binds md e&&(e.on==i||B.contains e.on)
  | none=>false))
theorem vT (i:Nat){oi:Oper}{v:Value}{n:Nat}{L:Array Bool}{a a':Act}{w:World}(hC:C w)(h:Mm P md ops Q C d n (L.setIfInBounds i true) a' w)(hi:ops[i]?=some oi:=by rfl)
 (hk:(okV md ops L d i (upV md ops i)&&(Region.noSelect ops&&(Region.free md ops L i&&(Region.ready md ops L).contains i)))=true:=by kernel_rfl) (hg:Region.wanted oi (yielded ops a.tmps)=true:=by rfl)
 (hy:∀(w:World),C w->Sem.run P (execOp a.eval oi) w=Result.ok (Next.value v) w:=by intro V hV; (try dsimp only at hV); go_simp; all_goals (with_reducible rfl)) (hQ:∀ c a w,Q (.panic c) (a.put oi.dst v) w->Q (.panic c) a w:=by exact fun _ _ _ h=>h) (ha:a.put oi.dst v=a':=by(try simp only [Act.put,zA,zB,zC,zD,zE,zF]); with_reducible rfl):Mm P md ops Q C d (n+1) L a w:=by
 subst ha;simp only [Bool.and_eq_true] at hk;obtain⟨h1,h2,h3,h4⟩:=hk;unfold okV at h1;simp only [Bool.and_eq_true] at h1;obtain⟨b1,b2,b3⟩:=h1;have b2:(upV md ops i).contains i=false:=by simpa using b2
 rw [List.all_eq_true] at b3;refine Zlt hi (fun j=>(upV md ops i).contains j) (fun j oj hoj hj=>?_) b2 b1 (Region.noSelect_spec h2) hQ n L a w (Region.free_spec hi h3) (by simpa using h4) (Or.inl ⟨hg,hy⟩) (fun j hj=>?_) hC h
 ·have h5:=b3 j (by simpa using hj);rw [hoj] at h5;simp only [Bool.and_eq_true] at h5;obtain⟨k,hk,hq⟩:=Array.any_eq_true.1 h5.2;simp only [Bool.and_eq_true,Bool.or_eq_true,beq_iff_eq] at hq;exact⟨_,Array.getElem_mem hk,hq.1,hq.2⟩
 ·have h5:=b3 j (by simpa using hj);simp only [Bool.and_eq_true] at h5;simpa using h5.1
theorem vD (i:Nat){oi:Oper}{v:Value}{n:Nat}{L:Array Bool}{a a':Act}{w:World}(hC:C w)(h:Mm P md ops Q C d n (L.setIfInBounds i true) a' w)(hi:ops[i]?=some oi:=by rfl)
 (hk:(okV md ops L d i (upV md ops i)&&(Region.noSelect ops&&(Region.free md ops L i&&(Region.ready md ops L).contains i)))=true:=by kernel_rfl) (hg:Region.wanted oi (yielded ops a.tmps)=true:=by rfl)
 (hy:∀(w:World),C w->Sem.run P (execOp a.eval oi) w=Result.ok (Next.value v) w:=by intro V hV; (repeat obtain⟨_,hV⟩:=hV); go_simp; all_goals (with_reducible rfl)) (hQ:∀ c a w,Q (.panic c) (a.put oi.dst v) w->Q (.panic c) a w:=by exact fun _ _ _ h=>h) (ha:a.put oi.dst v=a':=by(try simp only [Act.put,zA,zB,zC,zD,zE,zF]); with_reducible rfl):Mm P md ops Q C d (n+1) L a w :=
 vT i hC h hi hk hg hy hQ ha
theorem vO (i:Nat){oi:Oper}{n:Nat}{L:Array Bool}{a:Act}{w:World}(h:∀ K':Act->World->Prop,_root_.Go.Shut (∀ a w,((L.setIfInBounds i true).getD d true=false->C w)->Mm P md ops Q C d n (L.setIfInBounds i true) a w->K' a w)->if Region.wanted oi (yielded ops a.tmps)=true then Oper.wp P oi a w K' Q else K' (a.put oi.dst undef) w)(hr:Region.ready md ops L=[i]:=by kernel_rfl)(ho:ops[i]?=some oi:=by rfl):Mm P md ops Q C d (n+1) L a w:=Zhy hr ho h
theorem tE (i:Nat){W:World}{oi:Oper}{v:Value}{n:Nat}{L:Array Bool}{a a':Act}{j:Nat}(h:wpAnyH P md ops Q (fun V=>∃ k,V=W.drewN k) n (L.setIfInBounds i true) a' (W.drewN j))(h0:ops[i]?=some oi:=by rfl)(h1:(Region.noSelect ops&&(Region.free md ops L i&&(Region.ready md ops L).contains i))=true:=by kernel_rfl)(hg:Region.wanted oi (yielded ops a.tmps)=true:=by rfl)
 (hy:∀ k,Sem.run P (execOp a.eval oi) (W.drewN k)=Result.ok (Next.value v) (W.drewN k):=by intro k; go_simp; all_goals (with_reducible rfl)) (hq:∀(c:List PanicEntry) (a:Act) (w:World),Q (Exit.panic c) (a.put oi.dst v) w->Q (Exit.panic c) a w:=by exact fun _ _ _ h=>h) (ha:a.put oi.dst v=a':=by(try simp only [Act.put,zA,zB,zC,zD,zE,zF]); with_reducible rfl):wpAnyH P md ops Q (fun V=>∃ k,V=W.drewN k) (n+1) L a (W.drewN j):=by
 subst ha;simp only [Bool.and_eq_true] at h1;exact wpAnyH_take h0 h1.1 h1.2.1 h1.2.2 hq (Or.inl ⟨hg,fun V hV=>by obtain⟨k,rfl⟩:=hV; exact hy k⟩) ⟨j,rfl⟩ h
end
set_option maxHeartbeats 4000000
set_option maxRecDepth 100000
theorem Ybu (w:World)(X0 X1 X2 X3:Obj):((((w.alloc X0).alloc X1).alloc X2).alloc X3).heap[w.heap.size]?=some X0∧((((w.alloc X0).alloc X1).alloc X2).alloc X3).heap[w.heap.size+1]?=some X1∧((((w.alloc X0).alloc X1).alloc X2).alloc X3).heap[w.heap.size+1+1]?=some X2∧((((w.alloc X0).alloc X1).alloc X2).alloc X3).heap[w.heap.size+1+1+1]?=some X3∧((((w.alloc X0).alloc X1).alloc X2).alloc X3).heap.size=w.heap.size+1+1+1+1:=by obtain⟨r0,b0,s0⟩:=al0 w X0;obtain⟨r1,b1,s1⟩:=al0 (w.alloc X0) X1;obtain⟨r2,b2,s2⟩:=al0 ((w.alloc X0).alloc X1) X2;obtain⟨r3,b3,s3⟩:=al0 (((w.alloc X0).alloc X1).alloc X2) X3;rw [s0] at r1;rw [s1,s0] at r2;rw [s2,s1,s0] at r3;exact⟨(b3.block _ (by omega)).trans ((b2.block _ (by omega)).trans ((b1.block _ (by omega)).trans r0)),(b3.block _ (by omega)).trans ((b2.block _ (by omega)).trans r1),(b3.block _ (by omega)).trans r2,r3,by omega⟩
theorem Xo (w:World)(b q:Nat)(v0 v1 v2 v3:Value)(h:q≠b):((((w.setCell ⟨b,0,none⟩ v0).setCell ⟨b,1,none⟩ v1).setCell ⟨b,2,none⟩ v2).setCell ⟨b,3,none⟩ v3).heap[q]?=w.heap[q]? :=
 (heap_setCell_other _ _ _ _ h).trans ((heap_setCell_other _ _ _ _ h).trans ((heap_setCell_other _ _ _ _ h).trans (heap_setCell_other _ _ _ _ h)))
theorem Kg {P:Program}{fn:Func}{p q:Tmp}{px uy:TypeId}(h:fn.results=#[.cell p px,.cell q uy])(tmps:Array Value)(w:World)(g:Nat)(t:TypeId)(cs:Array Value)(fr:Nat×Nat)(d:TypeDesc)(g':Nat)(t':TypeId)(cs':Array Value)(fr':Nat×Nat)(d':TypeDesc)
 (hp:tmps.getD p undef=.pointer (some ⟨g,0,none⟩)) (hg:w.heap[g]?=some (.cells cs t fr)) (hu:P.underlying px=some d) (hd:(match d with | .struct _ | .array _ _=>true | _=>false)=true) (hi:(P.info? px).map (·.size)=some cs.size)
 (hp':tmps.getD q undef=.pointer (some ⟨g',0,none⟩)) (hg':w.heap[g']?=some (.cells cs' t' fr')) (hu':P.underlying uy=some d') (hd':(match d' with | .struct _ | .array _ _=>true | _=>false)=true) (hi':(P.info? uy).map (·.size)=some cs'.size) :
 (results fn tmps).run P w=.ok (.tuple #[.agg cs,.agg cs']) w:=by
 have e1:tmps[p]?.getD undef=.pointer (some ⟨g,0,none⟩):=by simpa using hp
 have e2:tmps[q]?.getD undef=.pointer (some ⟨g',0,none⟩):=by simpa using hp'
 simp [results,h,e1,e2,asAddr,run_loadVar_row w g t px cs fr d hg hu hd hi,run_loadVar_row w g' t' uy cs' fr' d' hg' hu' hd' hi']
theorem Tryz.infPfK:(Tryz.prog.info? 29).map (·.size)=some 4:=by kernel_rfl
theorem Zhv (w:World)(b:Nat)(t:TypeId)(c0 c1 c2 c3 v0 v1 v2 v3:Value)(h:w.heap[b]?=some (.cells #[c0,c1,c2,c3] t (0,0))):((((w.setCell ⟨b,0,none⟩ v0).setCell ⟨b,1,none⟩ v1).setCell ⟨b,2,none⟩ v2).setCell ⟨b,3,none⟩ v3).heap[b]?=some (.cells #[v0,v1,v2,v3] t (0,0)) :=
 heap_setCell_same _ _ 3 _ _ _ (heap_setCell_same _ _ 2 _ _ _ (heap_setCell_same _ _ 1 _ _ _ (heap_setCell_same _ _ 0 _ _ _ h)))
theorem Yel (w:World)(a:Addr)(v:Value):(w.setCell a v).os=w.os:=rfl
theorem Zxg (w:World)(a:Addr)(v:Value):(w.setCell a v).tape=w.tape:=rfl
theorem Ybv (w:World)(a:Addr)(v:Value):(w.setCell a v).output=w.output:=rfl
theorem Zsn (w5:World)(b:Nat)(t u:TypeId)(l0 l1 l2 l3 f0 f1 f2 f3 c0 c1 c2 c3 d0 d1 d2 d3:Value)(h2:w5.heap[b]?=some (.cells #[c0,c1,c2,c3] t (0,0)))(h3:w5.heap[b+1]?=some (.cells #[d0,d1,d2,d3] u (0,0))) :
 ((((((((w5.setCell ⟨b,0,none⟩ l0).setCell ⟨b,1,none⟩ l1).setCell ⟨b,2,none⟩ l2).setCell ⟨b,3,none⟩ l3).setCell ⟨b+1,0,none⟩ f0).setCell ⟨b+1,1,none⟩ f1).setCell ⟨b+1,2,none⟩ f2).setCell ⟨b+1,3,none⟩ f3).heap[b]?=some (.cells #[l0,l1,l2,l3] t (0,0)) ∧
 ((((((((w5.setCell ⟨b,0,none⟩ l0).setCell ⟨b,1,none⟩ l1).setCell ⟨b,2,none⟩ l2).setCell ⟨b,3,none⟩ l3).setCell ⟨b+1,0,none⟩ f0).setCell ⟨b+1,1,none⟩ f1).setCell ⟨b+1,2,none⟩ f2).setCell ⟨b+1,3,none⟩ f3).heap[b+1]?=some (.cells #[f0,f1,f2,f3] u (0,0)) ∧
 (∀ q,q≠b->q≠b+1->((((((((w5.setCell ⟨b,0,none⟩ l0).setCell ⟨b,1,none⟩ l1).setCell ⟨b,2,none⟩ l2).setCell ⟨b,3,none⟩ l3).setCell ⟨b+1,0,none⟩ f0).setCell ⟨b+1,1,none⟩ f1).setCell ⟨b+1,2,none⟩ f2).setCell ⟨b+1,3,none⟩ f3).heap[q]?=w5.heap[q]?) ∧
 ((((((((w5.setCell ⟨b,0,none⟩ l0).setCell ⟨b,1,none⟩ l1).setCell ⟨b,2,none⟩ l2).setCell ⟨b,3,none⟩ l3).setCell ⟨b+1,0,none⟩ f0).setCell ⟨b+1,1,none⟩ f1).setCell ⟨b+1,2,none⟩ f2).setCell ⟨b+1,3,none⟩ f3).heap.size=w5.heap.size ∧
 (((((((((w5.setCell ⟨b,0,none⟩ l0).setCell ⟨b,1,none⟩ l1).setCell ⟨b,2,none⟩ l2).setCell ⟨b,3,none⟩ l3).setCell ⟨b+1,0,none⟩ f0).setCell ⟨b+1,1,none⟩ f1).setCell ⟨b+1,2,none⟩ f2).setCell ⟨b+1,3,none⟩ f3).os=w5.os∧((((((((w5.setCell ⟨b,0,none⟩ l0).setCell ⟨b,1,none⟩ l1).setCell ⟨b,2,none⟩ l2).setCell ⟨b,3,none⟩ l3).setCell ⟨b+1,0,none⟩ f0).setCell ⟨b+1,1,none⟩ f1).setCell ⟨b+1,2,none⟩ f2).setCell ⟨b+1,3,none⟩ f3).tape=w5.tape∧((((((((w5.setCell ⟨b,0,none⟩ l0).setCell ⟨b,1,none⟩ l1).setCell ⟨b,2,none⟩ l2).setCell ⟨b,3,none⟩ l3).setCell ⟨b+1,0,none⟩ f0).setCell ⟨b+1,1,none⟩ f1).setCell ⟨b+1,2,none⟩ f2).setCell ⟨b+1,3,none⟩ f3).output=w5.output):=by
 refine⟨?_,?_,fun q h1 h2=>?_,by simp,by simp only [Yel],by simp only [Zxg],by simp only [Ybv]⟩
 ·rw [Xo _ _ _ _ _ _ _ (by omega)];exact Zhv _ _ _ _ _ _ _ _ _ _ _ h2
 ·exact Zhv _ _ _ d0 d1 d2 d3 _ _ _ _ ((Xo _ _ _ _ _ _ _ (by omega)).trans h3)
 ·rw [Xo _ _ _ _ _ _ _ h2,Xo _ _ _ _ _ _ _ h1]
theorem Ybw (T:Yh)(ps:List Int)(pq:Option Addr)(cq:Nat)(n:Int)(w:World)(hT:TbO w T)(hps:Li w (.slice pq ps.length cq) ps) :
 Calls Tryz.prog 27 #[.agg T.box,.agg #[.slice pq ps.length cq,.int .i64 n]] w fun e w'=>∃ av rv pvs,e=.returned (.tuple #[.agg #[av,rv,.int .i64 (Ut T ps n).size,.int .i64 (Ut T ps n).copies],Re (Kf T ps n)])∧Dj w' w.heap.size av rv (Ut T ps n) pvs∧Below w.heap.size w w':=by
 obtain⟨r0,r1,r2,hZ,hB⟩:=Zsm w (.cells T.box 25 (0,0)) (.cells #[.slice pq ps.length cq,.int .i64 n] 43 (0,0)) (.cells #[.slice none 0 0,.slice none 0 0,.int .i64 0,.int .i64 0] 47 (0,0));have HR2:=Za r2;have HB:=Za hB;have HC:=Za (Ybt T ps pq cq n _ (hT.below hB) (hps.below hB));clear r0 r1 r2 hB hT hps;unfold Yh.box at HC HR2 HB hZ ⊢;go_enter Tryz.func27,Tryz.ntmps27
 go_wp2_with fail
 generalize World.alloc (World.alloc (World.alloc w _) _) _=W at HC HR2 HB hZ ⊢;refine(J HC).mono ?_;rintro e w4 ⟨av,rv,pvs,rfl,hlay,hb4⟩;obtain⟨⟨ap,an,ac,rfl⟩,rp,rn,rc,rfl⟩:=hlay.shapes;have HLY:=Za hlay;have HB4:=Za (Zd (J HB) hb4 (by omega));have HD2:=Za ((hb4.block (w.heap.size+1+1) (by omega)).trans (J HR2));clear hlay hb4 HC;obtain⟨en,hen⟩:∃ en,en=Re (Kf T ps n):=⟨_,rfl⟩;rw [← hen];have HEN:=Za hen;clear hen;obtain⟨le,hle⟩:∃ le,le=Ut T ps n:=⟨_,rfl⟩;rw [← hle];have HLE:=Za hle;clear hle;go_wp2_with (refine wpList_store_row rfl 47 _ _ rfl (w.heap.size+1+1) #[.slice ap an ac,.slice rp rn rc,.int .i64 le.size,.int .i64 le.copies] rfl rfl 47 _ (J HD2) (Tryz.infLyK.trans rfl) rfl (by simp [Value.oneCell']) ?_)
 refine bodyPost_ret (Di (fn:=Tryz.f27) (p:=4) (q:=5) (px:=47) rfl _ _ (w.heap.size+1+1) 47 #[.slice ap an ac,.slice rp rn rc,.int .i64 le.size,.int .i64 le.copies] (0,0) _ rfl (setRow_heap _ _ _ _ _ _ (J HD2)) Tryz.underlying47 rfl (Tryz.infLyK.trans rfl)) rfl ?_;refine⟨_,_,pvs,by rw [← J HLE,← J HEN]; rfl,?_,Zg (J HB4) (by omega)⟩;rw [← J HLE];have h:=J HLY;rw [← J HLE] at h;exact h.row (by omega) (by omega)
theorem Zxh (T:Yh)(ps:List Int)(pq:Option Addr)(cq:Nat)(n:Int)(w:World)(hE:Zz w)(hT:TbO w T)(hps:Li w (.slice pq ps.length cq) ps) :
 Calls Tryz.prog 11 #[.agg T.box,.agg #[.slice pq ps.length cq,.int .i64 n]] w fun e w'=>∃ av rv pvs,e=.returned (.tuple #[.agg #[av,rv,.int .i64 (Ut T ps n).size,.int .i64 (Ut T ps n).copies],Dt (Kf T ps n) (-1) (-1) (-1)])∧Dj w' w.heap.size av rv (Ut T ps n) pvs∧Below w.heap.size w w':=by
 obtain⟨r0,r1,r2,r3,hZ⟩:=Ybu w (.cells T.box 25 (0,0)) (.cells #[.slice pq ps.length cq,.int .i64 n] 43 (0,0)) (.cells #[.slice none 0 0,.slice none 0 0,.int .i64 0,.int .i64 0] 47 (0,0)) (.cells #[.int .i64 0,.int .i64 0,.int .i64 0,.int .i64 0] 29 (0,0));have hB:Below w.heap.size w ((((w.alloc (.cells T.box 25 (0,0))).alloc (.cells #[.slice pq ps.length cq,.int .i64 n] 43 (0,0))).alloc (.cells #[.slice none 0 0,.slice none 0 0,.int .i64 0,.int .i64 0] 47 (0,0))).alloc (.cells #[.int .i64 0,.int .i64 0,.int .i64 0,.int .i64 0] 29 (0,0))):=((((Below.refl w.heap.size w).alloc (Nat.le_refl _) (.cells T.box 25 (0,0))).alloc (by simp) (.cells #[.slice pq ps.length cq,.int .i64 n] 43 (0,0))).alloc (by simp; omega) (.cells #[.slice none 0 0,.slice none 0 0,.int .i64 0,.int .i64 0] 47 (0,0))).alloc (by simp; omega) (.cells #[.int .i64 0,.int .i64 0,.int .i64 0,.int .i64 0] 29 (0,0));have HR2:=Za r2;have HR3:=Za r3;have HB:=Za hB;have HC:=Za (Ybw T ps pq cq n _ (hT.below hB) (hps.below hB));have HE:=Za (fun V (hb:Below w.heap.size w V)=>hE.keep hb);clear r0 r1 r2 r3 hB hT hps hE;unfold Yh.box at HC HR2 HR3 HB hZ ⊢;go_enter Tryz.func11,Tryz.ntmps11
 go_wp2_with fail
 generalize World.alloc (World.alloc (World.alloc (World.alloc w _) _) _) _=W at HC HR2 HR3 HB hZ ⊢;refine(J HC).mono ?_;rintro e w4 ⟨av,rv,pvs,rfl,hlay,hb4⟩;obtain⟨⟨ap,an,ac,rfl⟩,rp,rn,rc,rfl⟩:=hlay.shapes;have hz4:=hb4.size;have HLY:=Za hlay;have HB4:=Za (Zd (J HB) hb4 (by omega));have HD2:=Za ((hb4.block (w.heap.size+1+1) (by omega)).trans (J HR2));have HD3:=Za ((hb4.block (w.heap.size+1+1+1) (by omega)).trans (J HR3));clear hlay hb4 HC HR2 HR3;have HF:=Za (fun V (hb:Below w.heap.size w V)=>show Calls Tryz.prog 26 #[Re (Kf T ps n)] V fun e w'=>e=.returned (Dt (Kf T ps n) (-1) (-1) (-1))∧Below V.heap.size V w' by
  unfold Re;split
  ·rename_i h;rw [h];exact Ln V
  ·exact Lo _ V (J HE V hb))
 obtain⟨cn,hcn⟩:∃ cn,cn=Kf T ps n:=⟨_,rfl⟩;rw [← hcn] at HF ⊢;have HCN:=Za hcn;clear hcn;generalize Re cn=en at HF ⊢;obtain⟨le,hle⟩:∃ le,le=Ut T ps n:=⟨_,rfl⟩;rw [← hle] at HLY ⊢;have HLE:=Za hle;clear hle;-- region
 go_wp2_with fail
 obtain⟨hl1,hl2,hl3⟩:=al0 w4 (.cells #[.slice ap an ac,.slice rp rn rc,.int .i64 le.size,.int .i64 le.copies] 47 (0,0));have HE2:=Za ((hl2.block (w.heap.size+1+1) (by omega)).trans (J HD2));have HE3:=Za ((hl2.block (w.heap.size+1+1+1) (by omega)).trans (J HD3));have HLY2:=Za ((J HLY).keep hl2);have HB5:=Za (Zd (J HB4) hl2 (by omega));have HRL:=Za hl1;clear hl1 hl2;generalize hTl:w4.heap.size=Tl at HRL hl3 hz4 ⊢;clear hTl;generalize World.alloc w4 _=U at HE2 HE3 HLY2 HB5 HRL hl3 ⊢;have HK0:=Za (show U.drew.cell? ⟨Tl,0,none⟩=some (.slice ap an ac)∧U.drew.cell? ⟨Tl,1,none⟩=some (.slice rp rn rc)∧U.drew.cell? ⟨Tl,2,none⟩=some (.int .i64 le.size)∧U.drew.cell? ⟨Tl,3,none⟩=some (.int .i64 le.copies) from⟨(cR (J HRL) 0),(cR (J HRL) 1),(cR (J HRL) 2),(cR (J HRL) 3)⟩);have HFC:=Za (J HF U.drew (J HB5).drew);refine wp_region_held_drew (S:=fun V=>V.cell? ⟨Tl,0,none⟩=some (.slice ap an ac)∧V.cell? ⟨Tl,1,none⟩=some (.slice rp rn rc)∧V.cell? ⟨Tl,2,none⟩=some (.int .i64 le.size)∧V.cell? ⟨Tl,3,none⟩=some (.int .i64 le.copies)) (by kernel_rfl) (J HK0) (fun hHeld=>?_);refine tT 0 ?_;refine tT 1 ?_;refine tO 2 fun K hK=>?_;go_simp;refine(J HFC).mono ?_;rintro e w5 ⟨rfl,hb5⟩;have hr2:=(hb5.block (w.heap.size+1+1) (by show w.heap.size+1+1<U.heap.size; omega)).trans (J HE2);have hr3:=(hb5.block (w.heap.size+1+1+1) (by show w.heap.size+1+1+1<U.heap.size; omega)).trans (J HE3);have hrl:=(hb5.block Tl (by show Tl<U.heap.size; omega)).trans (J HRL)
 obtain⟨c0,c1,c2,c3⟩:=cT4 hr2;obtain⟨d0,d1,d2,d3⟩:=cT4 hr3;have z0:=frozen_of_row _ _ 0 _ _ hr2;have z1:=frozen_of_row _ _ 1 _ _ hr2;have z2:=frozen_of_row _ _ 2 _ _ hr2;have z3:=frozen_of_row _ _ 3 _ _ hr2;have y0:=frozen_of_row _ _ 0 _ _ hr3;have y1:=frozen_of_row _ _ 1 _ _ hr3;have y2:=frozen_of_row _ _ 2 _ _ hr3;have y3:=frozen_of_row _ _ 3 _ _ hr3;have HR2:=Za hr2;have HR3:=Za hr3;have HRL5:=Za hrl;have HB6:=Za (Zd (J HB5) (Zd (Below.refl U.heap.size U).drew hb5 (Nat.le_refl _)) (by omega));have HLY3:=Za ((J HLY2).keep (Zd (Below.refl U.heap.size U).drew hb5 (Nat.le_refl _)));clear hb5 hr2 hr3 hrl;unfold Dt;go_wp2_with fail
 refine kO hK (show _ from⟨(cR (J HRL5) 0),(cR (J HRL5) 1),(cR (J HRL5) 2),(cR (J HRL5) 3)⟩) (fun hHeld2=>?_);clear hK K;refine tO 3 fun K hK=>?_;go_simp;refine kO hK (show _ from⟨(cR ((Xo _ _ _ _ _ _ _ (by omega)).trans (J HRL5)) 0),(cR ((Xo _ _ _ _ _ _ _ (by omega)).trans (J HRL5)) 1),(cR ((Xo _ _ _ _ _ _ _ (by omega)).trans (J HRL5)) 2),(cR ((Xo _ _ _ _ _ _ _ (by omega)).trans (J HRL5)) 3)⟩) (fun hHeld2=>?_);clear hK K;refine tO 4 fun K hK=>?_;go_simp;refine kO hK (show _ from⟨(cR ((Xo _ _ _ _ _ _ _ (by omega)).trans ((Xo _ _ _ _ _ _ _ (by omega)).trans (J HRL5))) 0),(cR ((Xo _ _ _ _ _ _ _ (by omega)).trans ((Xo _ _ _ _ _ _ _ (by omega)).trans (J HRL5))) 1),(cR ((Xo _ _ _ _ _ _ _ (by omega)).trans ((Xo _ _ _ _ _ _ _ (by omega)).trans (J HRL5))) 2),(cR ((Xo _ _ _ _ _ _ _ (by omega)).trans ((Xo _ _ _ _ _ _ _ (by omega)).trans (J HRL5))) 3)⟩) (fun hHeld2=>?_);clear hK K;refine wpAnyH_done (by kernel_rfl) ?_ _;have htr:=Zsn w5 (w.heap.size+1+1) 47 29 (.slice ap an ac) (.slice rp rn rc) (.int .i64 le.size) (.int .i64 le.copies) (.int .i64 cn) (.int .i64 (-1)) (.int .i64 (-1)) (.int .i64 (-1)) _ _ _ _ _ _ _ _ (J HR2) (J HR3);clear c0 d0 z0 y0 c1 d1 z1 y1 c2 d2 z2 y2 c3 d3 z3 y3;generalize World.setCell (World.setCell (World.setCell (World.setCell (World.setCell (World.setCell (World.setCell (World.setCell w5 _ _) _ _) _ _) _ _) _ _) _ _) _ _) _ _=Z at htr ⊢;obtain⟨hq2,hq3,hq,hqs,hqo⟩:=htr;have HQ2:=Za hq2;have HQ3:=Za hq3;have HQ:=Za hq;have HQS:=Za hqs
 have HQO:=Za hqo;clear hq2 hq3 hq hqs hqo;go_wp2;refine bodyPost_ret (Kg (fn:=Tryz.f11) (p:=4) (q:=5) (px:=47) (uy:=29) rfl _ _ (w.heap.size+1+1) 47 #[.slice ap an ac,.slice rp rn rc,.int .i64 le.size,.int .i64 le.copies] (0,0) _ (w.heap.size+1+1+1) 29 #[.int .i64 cn,.int .i64 (-1),.int .i64 (-1),.int .i64 (-1)] (0,0) _ rfl (J HQ2) Tryz.underlying47 rfl (Tryz.infLyK.trans rfl) rfl (J HQ3) Tryz.underlying29 rfl (Tryz.infPfK.trans rfl)) rfl ?_;have h6:=J HB6;have h6z:=h6.size;have hqo:=J HQO;have hqs:=J HQS;refine⟨.slice ap an ac,.slice rp rn rc,pvs,?_,?_,⟨hqo.1.trans h6.os,hqo.2.1.trans h6.tape,hqo.2.2.trans h6.output,by omega,fun q hq9=>(J HQ q (by omega) (by omega)).trans (h6.block q hq9)⟩⟩
 ·rw [← J HLE,← J HCN]
 ·rw [← J HLE];exact(J HLY3).same (fun q hq9=>J HQ q (by omega) (by omega)) (by omega)
theorem Zcv {l:List Int}{c:Int}(h:Nf l c=true){i:Nat}(hi:i<l.length):0<=l.getD i 0∧l.getD i 0 ∉ l.take i:=by unfold Nf at h;rw [List.all_eq_true] at h;have h2:=h i (List.mem_range.2 hi);unfold Zgt at h2;have h3:=of_decide_eq_true h2;exact⟨h3.1,h3.2.2⟩
theorem Zux {l:List Int}{c:Int}(h:Nf l c=true){i j:Nat}(hij:i<j)(hj:j<l.length):l.getD i 0≠l.getD j 0:=fun e=>by
 apply (Zcv h hj).2
 rw [← e];have hi:i<(l.take j).length:=by simp; omega
 have:l.getD i 0=(l.take j)[i]:=by rw [List.getElem_take,List.getD_eq_getElem?_getD,List.getElem?_eq_getElem (by omega)];rfl
 rw [this];exact List.getElem_mem hi
end Go.Proofs.YtkenknfgeoecbaaGreatDoor
namespace Go.Proofs.YtkenknfgeoecbaaGreatDoor
open Go.ChangeShapes Go.WideShapes Go.ChangeAt Go.RowKit Go.Deep
set_option maxRecDepth 100000
section
variable {H:Type} {enc:TypeId×Value->H} {w:World} {held:Bool}
theorem Kh {n:Nat}{v:Value}{y:DataW H×List MemPlace}(h:TrE enc w held n 23 [v] y)(hw:Zla 23 y.1):∃ ns:List Int,Li w v ns∧ns.length*8<=140737488351232:=by
 obtain⟨ps,h1,h2,h3⟩:=Zbn (One:=fun q:Array Value×Int=>q.1=#[.int .i64 q.2]) Tryz.underlying23 Tryz.cellsIntE (by decide) (show Tryz.prog.bytesOf 3=8 by kernel_rfl) (fun n cs y hl hy _=>by
  match cs,hl with
  | [v],_=>obtain⟨x,rfl,hx⟩:=Cy hy;exact⟨x,rfl⟩) h hw
 have hl:(ps.map (·.2)).length=ps.length:=by simp
 obtain⟨p,cap,g1,g2,g3,g4⟩:=(h1.congr (B:=fun k=>#[.int .i64 ((ps.map (·.2)).getD k default)]) (fun i hi=>by rw [Zef ps #[]]; exact h2 _ (Zeg _ _ _ hi))).ones;exact⟨ps.map (·.2),⟨p,cap,by rw [hl]; exact g1,by rw [hl]; exact g2,by rw [hl]; exact g3,fun h0=>by rw [hl] at h0 ⊢; exact g4 h0⟩,by rw [hl]; exact h3⟩
theorem Zhz {b0:Nat}{r:Reach}{v:Value}{d:DataW H}{p:List MemPlace}(hv:Value.okWide Tryz.prog w r b0 25 v)(h:DataW.Trod enc Tryz.prog w 0 (fun _=>true) held 25 v d p)(hw:Zla 25 d) :
 ∃ T:Yh,v=.agg T.box∧TbO w T∧Yem T:=by
 obtain⟨cs,rfl,hsz⟩:=okWide_struct Tryz.underlying25 hv;obtain⟨l⟩:=cs;obtain⟨c0,c1,c2,c3,c4,c5,c6,c7,c8,c9,c10,c11,rfl⟩:=Yaj (l:=l) (hsz.trans (by kernel_rfl));obtain⟨fuel,hf⟩:=h;obtain⟨xs,n,-,hx,-,hxl,hall⟩:=DataW.trod_struct Tryz.underlying25 hf;obtain⟨y0,y1,y2,y3,y4,y5,y6,y7,y8,y9,y10,rfl⟩:=Yak hxl;have f0:TrE enc w held n 3 [c0] y0:=Xa hall (i:=0) rfl Tryz.cellsIntQ rfl;have f1:TrE enc w held n 3 [c1] y1:=Xa hall (i:=1) rfl Tryz.cellsIntQ rfl;have f2:TrE enc w held n 3 [c2] y2:=Xa hall (i:=2) rfl Tryz.cellsIntQ rfl;have f3:TrE enc w held n 22 [c3,c4] y3:=Xa hall (i:=3) rfl Tryz.cells2iQ rfl;have f4:TrE enc w held n 23 [c5] y4:=Xa hall (i:=4) rfl Tryz.cellsIntsQ rfl;have f5:TrE enc w held n 23 [c6] y5:=Xa hall (i:=5) rfl Tryz.cellsIntsQ rfl;have f6:TrE enc w held n 23 [c7] y6:=Xa hall (i:=6) rfl Tryz.cellsIntsQ rfl;have f7:TrE enc w held n 3 [c8] y7:=Xa hall (i:=7) rfl Tryz.cellsIntQ rfl;have f8:TrE enc w held n 3 [c9] y8:=Xa hall (i:=8) rfl Tryz.cellsIntQ rfl;have f9:TrE enc w held n 3 [c10] y9:=Xa hall (i:=9) rfl Tryz.cellsIntQ rfl;have f10:TrE enc w held n 4 [c11] y10:=Xa hall (i:=10) rfl Tryz.cellsBoolQ rfl;clear hall;rw [show d=_ from congrArg Prod.fst hx] at hw;unfold Zla at hw;simp only [DataW.weights,Tryz.underlying25,List.map_cons,List.map_nil,DataW.weightsEach,List.mem_append] at hw;obtain⟨i0,rfl⟩:=Lv (v:=c0) (y:=y0) f0;obtain⟨i1,rfl⟩:=Lv (v:=c1) (y:=y1) f1
 obtain⟨i2,rfl⟩:=Lv (v:=c2) (y:=y2) f2;obtain⟨i3,i4,rfl,rfl⟩:=Zrs (v0:=c3) (v1:=c4) (y:=y3) f3;obtain⟨ag,l5,k5⟩:=Kh f4 (fun z hz=>hw z (by simp only [hz,true_or,or_true]));obtain⟨rs,l6,k6⟩:=Kh f5 (fun z hz=>hw z (by simp only [hz,true_or,or_true]));obtain⟨ss,l7,k7⟩:=Kh f6 (fun z hz=>hw z (by simp only [hz,true_or,or_true]));obtain⟨i8,rfl⟩:=Lv (v:=c8) (y:=y7) f7;obtain⟨i9,rfl⟩:=Lv (v:=c9) (y:=y8) f8;obtain⟨i10,rfl⟩:=Lv (v:=c10) (y:=y9) f9;obtain⟨pr,hpr,-⟩:=DataW.trod_bool Tryz.underlying4 (cs:=[c11]) (x:=y10) f10;obtain rfl:=List.head_eq_of_cons_eq hpr;have m5:=l5;have m6:=l6;have m7:=l7;obtain⟨pa,ca,rfl,-⟩:=l5;obtain⟨pb,cb,rfl,-⟩:=l6;obtain⟨pc,cc,rfl,-⟩:=l7;exact⟨⟨i0,i1,i2,i3,i4,pa,ag,ca,pb,rs,cb,pc,ss,cc,i8,i9,i10,pr⟩,rfl,⟨m5,m6,m7⟩,⟨k5,k6,k7⟩⟩
end
end Go.Proofs.YtkenknfgeoecbaaGreatDoor
